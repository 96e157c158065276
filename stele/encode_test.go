package stele_test

import (
	"bytes"
	"math"
	"slices"
	"strings"
	"testing"

	"stele/api"
	"stele/stele"
)

func holdEncode(t *testing.T, m api.Message, want []byte, ok bool) {
	t.Helper()
	got, err := stele.Encode(m)
	if ok && (!bytes.Equal(got, want) || err != api.OK) {
		t.Errorf("P7: Encode(%.200v) = %v, %d, want %v", m, got, err, want)
	}
	if !ok && (len(got) != 0 || err != api.ErrArg) {
		t.Errorf("P7: Encode(%.200v) = %v, %d, want ErrArg", m, got, err)
	}
}

func member(i, n int, nodes ...api.Node) api.Message {
	return api.Message{Kind: api.Member, M: i, N: n, Tree: nodes}
}

func growth(m, n, root int, nodes ...api.Node) api.Message {
	return api.Message{Kind: api.Growth, M: m, N: n, Root: root, Tree: nodes}
}

func stub(digest int) api.Node { return api.Node{Kind: api.Stub, Digest: digest} }

func leaf(event string) api.Node { return api.Node{Kind: api.Leaf, Event: event} }

func two() api.Node { return api.Node{Kind: api.Two} }

func alone() api.Node { return api.Node{Kind: api.Alone} }

func TestEncodeOfValues(t *testing.T) {
	long := strings.Repeat("x", 50)
	for _, c := range []struct {
		m    api.Message
		want []byte
	}{
		{api.Message{Kind: 1, N: 1}, lay(1, 0, 1, 0, 0)},
		{api.Message{Kind: 1, N: 500, Root: 65535}, lay(1, 1, 244, 255, 255)},
		{api.Message{Kind: 1, N: 1, Tree: []api.Node{}}, lay(1, 0, 1, 0, 0)},
		{member(0, 1, leaf("")), lay(3, 0, 0, 0, 1, 1, 0)},
		{member(0, 1, leaf(long)), lay(3, 0, 0, 0, 1, 1, 50, long)},
		{member(1, 2, two(), stub(0), leaf("b")), lay(3, 0, 1, 0, 2, 2, 0, 0, 0, 1, 1, "b")},
		{member(2, 3, two(), stub(65535), alone(), leaf("c")), lay(3, 0, 2, 0, 3, 2, 0, 255, 255, 3, 1, 1, "c")},
		{growth(1, 1, 5, stub(5)), lay(2, 0, 1, 0, 1, 0, 5, 0, 0, 5)},
		{growth(1, 2, 65535, two(), stub(0), stub(65535)), lay(2, 0, 1, 0, 2, 255, 255, 2, 0, 0, 0, 0, 255, 255)},
		{growth(3, 3, 0, two(), stub(1), alone(), stub(2)), lay(2, 0, 3, 0, 3, 0, 0, 2, 0, 0, 1, 3, 0, 0, 2)},
	} {
		holdEncode(t, c.m, c.want, true)
	}
}

func TestEncodeOfWhatIsNoMessagesValue(t *testing.T) {
	a, b := leaf("a"), leaf("b")
	for _, m := range []api.Message{
		{},
		{Kind: 4, N: 1}, {Kind: -1, N: 1}, {Kind: 257, N: 1}, {Kind: 258, M: 1, N: 1, Tree: []api.Node{stub(0)}}, {Kind: 1 << 32, N: 1},
		{Kind: 259, N: 1, Tree: []api.Node{a}}, {Kind: math.MinInt, N: 1}, {Kind: math.MaxInt, N: 1},
		// A field that the kind has not.
		{Kind: 1, N: 1, M: 1}, {Kind: 1, N: 1, M: -1}, {Kind: 1, N: 1, M: 65536}, {Kind: 1, N: 1, Tree: []api.Node{a}},
		{Kind: 1, N: 1, Tree: []api.Node{stub(0)}},
		{Kind: 3, N: 1, Root: 883, Tree: []api.Node{a}}, {Kind: 3, N: 1, Root: -1, Tree: []api.Node{a}},
		{Kind: 3, N: 1, Root: 65536, Tree: []api.Node{a}},
		// Numbers out of their bounds, or too great for their bytes.
		{Kind: 1}, {Kind: 1, N: -1}, {Kind: 1, N: 501}, {Kind: 1, N: 65537}, {Kind: 1, N: math.MinInt}, {Kind: 1, N: 1 + 1<<32},
		{Kind: 1, N: 1, Root: -1}, {Kind: 1, N: 1, Root: 65536}, {Kind: 1, N: 1, Root: math.MaxInt}, {Kind: 1, N: 1, Root: math.MinInt},
		member(0, 0, a), member(1, 1, a), member(-1, 1, a), member(65536, 1, a), member(0, 65537, a), member(0, 501, a),
		growth(0, 1, 0, stub(0)), growth(2, 1, 0, stub(0)), growth(-1, 1, 0, stub(0)), growth(65537, 1, 0, stub(0)),
		growth(1, 0, 0, stub(0)), growth(1, 65537, 0, stub(0)), growth(1, 1, 65536, stub(0)), growth(1, 1, -1, stub(0)),
		growth(1, 1, 0, stub(-1)), growth(1, 1, 0, stub(65536)), growth(1, 1, 0, stub(math.MaxInt)), growth(1, 1, 0, stub(math.MinInt)),
		// Nodes too few, too many, or of another kind.
		member(0, 1), member(0, 2), member(0, 2, two()), member(0, 2, two(), a), growth(1, 1, 0), growth(1, 2, 0, two(), stub(0)),
		member(0, 1, a, b), member(0, 1, a, stub(0)), member(0, 2, two(), a, stub(0), stub(0)), growth(1, 1, 0, stub(0), stub(0)),
		member(0, 1, stub(883)), member(0, 1, two()), member(0, 1, alone()), member(0, 1, alone(), a), member(0, 2, alone(), a, stub(0)),
		member(0, 2, two(), stub(0), a), member(0, 2, two(), a, b), member(2, 3, two(), stub(0), two(), a), growth(1, 1, 0, a),
		growth(2, 2, 0, two(), stub(0), stub(0)), member(0, 1, api.Node{Kind: 257, Event: "a"}), member(0, 1, api.Node{Kind: -255, Event: "a"}),
		growth(1, 1, 0, api.Node{Kind: 256}), growth(1, 1, 0, api.Node{Kind: 4}), growth(1, 1, 0, api.Node{Kind: -1}),
		// What a node's kind has not.
		growth(1, 1, 0, api.Node{Event: "x"}), member(0, 1, api.Node{Kind: 1, Digest: 1, Event: "a"}),
		member(0, 1, api.Node{Kind: 1, Digest: -1}), member(0, 2, api.Node{Kind: 2, Digest: 1}, a, stub(0)),
		member(0, 2, api.Node{Kind: 2, Event: "x"}, a, stub(0)), member(0, 2, api.Node{Kind: 2, Digest: 65536}, a, stub(0)),
		member(2, 3, two(), stub(0), api.Node{Kind: 3, Digest: 1}, a), member(2, 3, two(), stub(0), api.Node{Kind: 3, Event: "x"}, a),
		// Events that are too long, also those whose length would wrap round.
		member(0, 1, leaf(strings.Repeat("x", 51))), member(0, 1, leaf(strings.Repeat("x", 255))),
		member(0, 1, leaf(strings.Repeat("x", 256))), member(0, 1, leaf(strings.Repeat("x", 257))),
		// A longer event whose bytes would read as a shorter one and a stub.
		member(0, 2, two(), leaf("a\x00\x03\x74")),
	} {
		holdEncode(t, m, nil, false)
	}
}

func TestEncodeOfVeryGreatValues(t *testing.T) {
	text := strings.Repeat("x", 1<<24)
	many := make([]api.Node, 1<<20)
	holdEncode(t, growth(1, 1, 0, many...), nil, false)
	holdEncode(t, api.Message{Kind: 1, N: 1, Tree: many}, nil, false)
	holdEncode(t, growth(1, 1, 0, many[:3999]...), nil, false)
	holdEncode(t, growth(1, 1, 0, many[:4000]...), nil, false)
	holdEncode(t, growth(1, 1, 0, many[:4001]...), nil, false)
	for i := range many {
		many[i] = leaf(text)
	}
	holdEncode(t, member(0, 1, many...), nil, false)
	holdEncode(t, member(0, 1, many[:4000]...), nil, false)
	holdEncode(t, member(0, 1, leaf(text)), nil, false)
}

// besides gives values that differ from m in one number.
func besides(m api.Message) []api.Message {
	var others []api.Message
	for _, by := range []int{1, -1, 2, 255, 256, -256, 65536, -65536, 1 << 32, math.MinInt} {
		kind, a, n, root := m, m, m, m
		kind.Kind += by
		a.M += by
		n.N += by
		root.Root += by
		others = append(others, kind, a, n, root)
		for i := range m.Tree {
			nodeKind, digest := m, m
			nodeKind.Tree, digest.Tree = slices.Clone(m.Tree), slices.Clone(m.Tree)
			nodeKind.Tree[i].Kind += by
			digest.Tree[i].Digest += by
			others = append(others, nodeKind, digest)
		}
	}
	return others
}

// otherNodes gives values that differ from m in one node.
func otherNodes(m api.Message) []api.Message {
	var others []api.Message
	for i, n := range m.Tree {
		fewer, more, event, long := m, m, m, m
		fewer.Tree = slices.Delete(slices.Clone(m.Tree), i, i+1)
		more.Tree = slices.Insert(slices.Clone(m.Tree), i, n)
		event.Tree, long.Tree = slices.Clone(m.Tree), slices.Clone(m.Tree)
		event.Tree[i].Event += "x"
		long.Tree[i].Event = strings.Repeat("y", 51)
		others = append(others, fewer, more, event, long)
	}
	return others
}

func TestEncodeOfValuesBesideAMessages(t *testing.T) {
	for _, message := range someMessages(t) {
		value := decodeByWords(message).value
		for _, other := range append(besides(value), otherNodes(value)...) {
			want, ok := encodeByWords(other)
			holdEncode(t, other, want, ok)
		}
	}
}

func TestEncodeKeepsAndWritesNothing(t *testing.T) {
	for _, message := range someMessages(t) {
		value := decodeByWords(message).value
		room := append(slices.Clone(value.Tree), api.Node{Kind: 9, Digest: 9, Event: "9"})
		before := slices.Clone(room)
		value.Tree = room[:len(room)-1]
		first, _ := stele.Encode(value)
		if !slices.Equal(room, before) {
			t.Fatalf("P2: Encode wrote into the tree or behind it: %v, before %v", room, before)
		}
		second, _ := stele.Encode(value)
		behind := bytes.Clone(second[:cap(second)])
		spoil(first)
		if !bytes.Equal(second[:cap(second)], behind) {
			t.Fatal("P2: two answers of Encode share memory")
		}
		holdEncode(t, value, message, true)
	}
}
