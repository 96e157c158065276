package stele_test

import (
	"bytes"
	"math/rand"
	"slices"
	"strings"
	"testing"

	"stele/api"
)

// lay puts a message together of numbers of one byte and of texts.
func lay(parts ...any) []byte {
	var message []byte
	for _, part := range parts {
		switch p := part.(type) {
		case int:
			message = append(message, byte(p))
		case string:
			message = append(message, p...)
		case []byte:
			message = append(message, p...)
		}
	}
	return message
}

func holdDecode(t *testing.T, message []byte, want decoded) {
	t.Helper()
	if got := decode(message); !got.equals(want) {
		t.Errorf("P6: Decode of %d bytes %.60v = %v, want %v", len(message), message, got, want)
	}
}

func TestDecodeOfMessages(t *testing.T) {
	long := strings.Repeat("x", 50)
	for _, c := range []struct {
		message []byte
		want    api.Message
	}{
		{lay(1, 0, 1, 3, 115), api.Message{Kind: 1, N: 1, Root: 883}},
		{lay(1, 1, 244, 255, 255), api.Message{Kind: 1, N: 500, Root: 65535}},
		{lay(1, 1, 244, 0, 0), api.Message{Kind: 1, N: 500}},
		{lay(2, 0, 1, 0, 2, 0, 0, 2, 0, 3, 115, 0, 3, 116),
			api.Message{Kind: 2, M: 1, N: 2, Tree: []api.Node{{Kind: 2}, {Digest: 883}, {Digest: 884}}}},
		{lay(2, 0, 2, 0, 2, 255, 255, 0, 255, 255), api.Message{Kind: 2, M: 2, N: 2, Root: 65535, Tree: []api.Node{{Digest: 65535}}}},
		{lay(2, 0, 2, 0, 2, 1, 2, 0, 0, 0), api.Message{Kind: 2, M: 2, N: 2, Root: 258, Tree: []api.Node{{}}}},
		{lay(2, 0, 3, 0, 4, 0, 9, 2, 0, 0, 1, 2, 0, 0, 2, 0, 0, 3),
			api.Message{Kind: 2, M: 3, N: 4, Root: 9, Tree: []api.Node{{Kind: 2}, {Digest: 1}, {Kind: 2}, {Digest: 2}, {Digest: 3}}}},
		{lay(2, 0, 3, 0, 3, 0, 9, 2, 0, 0, 1, 3, 0, 0, 2),
			api.Message{Kind: 2, M: 3, N: 3, Root: 9, Tree: []api.Node{{Kind: 2}, {Digest: 1}, {Kind: 3}, {Digest: 2}}}},
		{lay(3, 0, 0, 0, 1, 1, 1, "a"), api.Message{Kind: 3, N: 1, Tree: []api.Node{{Kind: 1, Event: "a"}}}},
		{lay(3, 0, 0, 0, 1, 1, 0), api.Message{Kind: 3, N: 1, Tree: []api.Node{{Kind: 1}}}},
		{lay(3, 0, 0, 0, 1, 1, 50, long), api.Message{Kind: 3, N: 1, Tree: []api.Node{{Kind: 1, Event: long}}}},
		{lay(3, 0, 0, 0, 1, 1, 3, 0, 255, 1), api.Message{Kind: 3, N: 1, Tree: []api.Node{{Kind: 1, Event: "\x00\xff\x01"}}}},
		{lay(3, 0, 0, 0, 2, 2, 1, 1, "a", 0, 3, 116),
			api.Message{Kind: 3, N: 2, Tree: []api.Node{{Kind: 2}, {Kind: 1, Event: "a"}, {Digest: 884}}}},
		{lay(3, 0, 2, 0, 3, 2, 0, 9, 9, 3, 1, 1, "c"),
			api.Message{Kind: 3, M: 2, N: 3, Tree: []api.Node{{Kind: 2}, {Digest: 2313}, {Kind: 3}, {Kind: 1, Event: "c"}}}},
	} {
		holdDecode(t, c.message, decoded{value: c.want})
		holdEncode(t, c.want, c.message, true)
	}
}

// Each of these has one fault, or two of which the one named first is told.
func TestDecodeOfWhatIsNoMessage(t *testing.T) {
	fill := func(length int, start ...int) []byte {
		message := make([]byte, length)
		for i, b := range start {
			message[i] = byte(b)
		}
		return message
	}
	for _, c := range []struct {
		why     string
		message []byte
		err     api.Errno
		place   int
	}{
		{"nothing", nil, api.ErrShort, 0},
		{"an empty list", []byte{}, api.ErrShort, 0},
		{"no kind", lay(0), api.ErrKind, 0},
		{"no kind", lay(4), api.ErrKind, 0},
		{"no kind, and fields", lay(255, 0, 0, 0, 0, 0, 0), api.ErrKind, 0},
		{"4001 bytes", fill(4001, 1, 0, 1, 3, 115), api.ErrLong, 0},
		{"4001 bytes of no kind", fill(4001, 4), api.ErrLong, 0},
		{"very many bytes", fill(1 << 20), api.ErrLong, 0},
		{"4000 bytes of no kind", fill(4000, 4), api.ErrKind, 0},
		{"4000 bytes, n 0", fill(4000, 1), api.ErrArg, 1},
		{"4000 bytes, most of them behind", fill(4000, 1, 0, 1, 3, 115), api.ErrMore, 5},
		{"4000 bytes, most of them behind", fill(4000, 3, 0, 0, 0, 1, 1, 2), api.ErrMore, 9},
		{"short, and n not there", lay(1, 0), api.ErrShort, 2},
		{"short, and n 0", lay(1, 0, 0, 0), api.ErrShort, 4},
		{"short, and n 501", lay(1, 1, 245), api.ErrShort, 3},
		{"short, and n and m 0", lay(2, 0, 0, 0, 0, 0), api.ErrShort, 6},
		{"short, and i not below n", lay(3, 0, 9, 0), api.ErrShort, 4},
		{"n 0, and more", lay(1, 0, 0, 0, 0, 7), api.ErrArg, 1},
		{"n 0 and m 0", lay(2, 0, 0, 0, 0, 0, 0), api.ErrArg, 3},
		{"n 501 and m 502", lay(2, 1, 246, 1, 245, 0, 0), api.ErrArg, 3},
		{"n 501 and i 501", lay(3, 1, 245, 1, 245), api.ErrArg, 3},
		{"n 0, and another shape", lay(3, 0, 0, 0, 0, 9), api.ErrArg, 3},
		{"m 0, and another shape", lay(2, 0, 0, 0, 1, 0, 0, 9), api.ErrArg, 1},
		{"m above n, no tree", lay(2, 0, 2, 0, 1, 0, 0), api.ErrArg, 1},
		{"i is n, no tree", lay(3, 0, 1, 0, 1), api.ErrArg, 1},
		{"i is n, another shape", lay(3, 0, 1, 0, 1, 7), api.ErrArg, 1},
		{"no tree", lay(3, 0, 0, 0, 1), api.ErrShort, 5},
		{"no tree", lay(2, 0, 1, 0, 1, 0, 0), api.ErrShort, 7},
		{"a stub for an event", lay(3, 0, 0, 0, 1, 0, 0, 0), api.ErrShape, 5},
		{"a stub for an event, and short", lay(3, 0, 0, 0, 1, 0), api.ErrShape, 5},
		{"a stub for an event, and more", lay(3, 0, 0, 0, 1, 0, 0, 0, 0, 0), api.ErrShape, 5},
		{"an event for a stub", lay(3, 0, 0, 0, 2, 2, 1, 0, 1, 0), api.ErrShape, 8},
		{"an event that is too long for a stub", lay(3, 0, 0, 0, 2, 2, 1, 0, 1, 51), api.ErrShape, 8},
		{"one for two", lay(3, 0, 0, 0, 2, 3, 1, 0), api.ErrShape, 5},
		{"two for one", lay(3, 0, 2, 0, 3, 2, 0, 0, 0, 2, 1, 0), api.ErrShape, 9},
		{"two for a stub", lay(2, 0, 2, 0, 2, 0, 7, 2, 0, 0, 0, 0, 0, 0), api.ErrShape, 7},
		{"two for an event", lay(3, 0, 0, 0, 1, 2), api.ErrShape, 5},
		{"no kind of node", lay(3, 0, 0, 0, 1, 4), api.ErrShape, 5},
		{"the other order", lay(3, 0, 0, 0, 2, 2, 0, 3, 116, 1, 1, "a"), api.ErrShape, 6},
		{"an event without its length", lay(3, 0, 0, 0, 1, 1), api.ErrShort, 6},
		{"an event of 51 bytes", lay(3, 0, 0, 0, 1, 1, 51, strings.Repeat("x", 51)), api.ErrLong, 5},
		{"an event of 51 bytes, and short", lay(3, 0, 0, 0, 1, 1, 51), api.ErrLong, 5},
		{"an event of 51 bytes, and more", lay(3, 0, 0, 0, 1, 1, 51, strings.Repeat("x", 60)), api.ErrLong, 5},
		{"an event of 255 bytes", lay(3, 0, 0, 0, 1, 1, 255), api.ErrLong, 5},
		{"an event of 51 bytes behind a stub", lay(3, 0, 1, 0, 2, 2, 0, 0, 0, 1, 51), api.ErrLong, 9},
		{"an event that ends early", lay(3, 0, 0, 0, 1, 1, 50, strings.Repeat("x", 49)), api.ErrShort, 56},
		{"a short event, the next node none", lay(3, 0, 0, 0, 2, 2, 1, 3, "a", 9), api.ErrShort, 10},
		{"half a digest", lay(3, 0, 0, 0, 2, 2, 1, 0, 0, 7), api.ErrShort, 10},
		{"more behind a commitment", lay(1, 0, 1, 3, 115, 7), api.ErrMore, 5},
		{"more behind an event", lay(3, 0, 0, 0, 1, 1, 0, 0), api.ErrMore, 7},
		{"more behind growth", lay(2, 0, 2, 0, 2, 0, 7, 0, 0, 7, 0, 0, 0), api.ErrMore, 10},
	} {
		if got := decode(c.message); !got.equals(refused(c.err, c.place)) {
			t.Errorf("P6: %s: Decode(%.60v) = %v, want %d, %d", c.why, c.message, got, c.err, c.place)
		}
	}
}

func TestDecodeOfWhatALogTells(t *testing.T) {
	for _, message := range someMessages(t) {
		want := decodeByWords(message)
		if want.err != api.OK {
			t.Fatalf("the words refuse %v: %d at %d", message, want.err, want.place)
		}
		holdDecode(t, message, want)
		holdEncode(t, want.value, message, true)
	}
}

func TestDecodeOfMessagesCutShort(t *testing.T) {
	for _, message := range someMessages(t) {
		for length := range message {
			holdDecode(t, message[:length], refused(api.ErrShort, length))
			// Bytes that stand behind the message are none of its own.
			holdDecode(t, bytes.Clone(message[:length]), refused(api.ErrShort, length))
		}
	}
}

func TestDecodeOfMessagesWithMoreBehind(t *testing.T) {
	for _, message := range someMessages(t) {
		for _, more := range []int{0, 1, 2, 3, 255} {
			holdDecode(t, lay(message, more), refused(api.ErrMore, len(message)))
		}
		full := append(bytes.Clone(message), make([]byte, api.MaxMessage-len(message))...)
		holdDecode(t, full, refused(api.ErrMore, len(message)))
		holdDecode(t, append(full, 0), refused(api.ErrLong, 0))
	}
}

func TestDecodeOfNumbersAtTheirEdges(t *testing.T) {
	edges := []int{0, 1, 2, 3, 255, 256, 257, 499, 500, 501, 502, 512, 65280, 65535}
	for _, n := range edges {
		badN := n < 1 || n > 500
		want := decoded{value: api.Message{Kind: 1, N: n, Root: 7}}
		if badN {
			want = refused(api.ErrArg, 1)
		}
		holdDecode(t, lay(1, pairOfBytes(n), 0, 7), want)
		for _, a := range edges {
			growth, member := refused(api.ErrShort, 7), refused(api.ErrShort, 5)
			if a < 1 || a > n {
				growth = refused(api.ErrArg, 1)
			}
			if a >= n {
				member = refused(api.ErrArg, 1)
			}
			if badN {
				growth, member = refused(api.ErrArg, 3), refused(api.ErrArg, 3)
			}
			holdDecode(t, lay(2, pairOfBytes(a), pairOfBytes(n), 0, 7), growth)
			holdDecode(t, lay(3, pairOfBytes(a), pairOfBytes(n)), member)
		}
	}
}

func TestDecodeOfEachKindOfMessage(t *testing.T) {
	for kind := range 256 {
		want := refused(api.ErrKind, 0)
		if kind >= 1 && kind <= 3 {
			want = refused(api.ErrShort, 1)
		}
		holdDecode(t, []byte{byte(kind)}, want)
	}
}

func TestDecodeOfAnotherShape(t *testing.T) {
	for _, message := range someMessages(t) {
		for _, place := range nodePlaces(message) {
			for _, first := range []byte{0, 1, 2, 3, 4, 255} {
				other := bytes.Clone(message)
				if other[place] == first {
					continue
				}
				other[place] = first
				holdDecode(t, other, refused(api.ErrShape, place))
				// The node's own fault comes ahead of those behind it.
				holdDecode(t, other[:place+1], refused(api.ErrShape, place))
			}
		}
	}
}

func TestDecodeOfAnyEventLength(t *testing.T) {
	for length := range 256 {
		event := strings.Repeat("\xfe", length)
		want := decoded{value: api.Message{Kind: 3, N: 1, Tree: []api.Node{{Kind: 1, Event: event}}}}
		if length > 50 {
			want = refused(api.ErrLong, 5)
		}
		holdDecode(t, lay(3, 0, 0, 0, 1, 1, length, event), want)
	}
}

func TestDecodeOfAnyDigest(t *testing.T) {
	for _, digest := range []int{0, 1, 255, 256, 65520, 65521, 65535} {
		two := pairOfBytes(digest)
		holdDecode(t, lay(1, 0, 1, two), decoded{value: api.Message{Kind: 1, N: 1, Root: digest}})
		holdDecode(t, lay(2, 0, 1, 0, 1, two, 0, two),
			decoded{value: api.Message{Kind: 2, M: 1, N: 1, Root: digest, Tree: []api.Node{{Digest: digest}}}})
		holdDecode(t, lay(3, 0, 0, 0, 2, 2, 1, 0, 0, two),
			decoded{value: api.Message{Kind: 3, N: 2, Tree: []api.Node{{Kind: 2}, {Kind: 1}, {Digest: digest}}}})
	}
}

// changed gives a message in which a few bytes are others, gone or new.
func changed(r *rand.Rand, message []byte) []byte {
	message = bytes.Clone(message)
	for range 1 + r.Intn(3) {
		at := r.Intn(len(message) + 1)
		switch r.Intn(4) {
		case 0:
			message = message[:at]
		case 1:
			message = slices.Insert(message, at, byte(r.Intn(60)))
		default:
			if at < len(message) {
				message[at] = []byte{0, 1, 2, 3, 50, 51, byte(r.Intn(256))}[r.Intn(7)]
			}
		}
	}
	return message
}

func TestDecodeOfChangedMessages(t *testing.T) {
	r := rand.New(rand.NewSource(1))
	for _, message := range someMessages(t) {
		for range 200 {
			other := changed(r, message)
			want := decodeByWords(other)
			holdDecode(t, other, want)
			if want.err == api.OK {
				holdEncode(t, want.value, other, true)
			}
		}
	}
}

func TestDecodeOfAllShortMessages(t *testing.T) {
	// Heads that let a tree of few nodes follow, and all bytes that matter behind.
	heads := [][]byte{nil, lay(1, 0, 1), lay(2, 0, 1, 0, 1, 0, 0), lay(2, 0, 1, 0, 2, 0, 0), lay(2, 0, 3, 0, 3, 0, 0),
		lay(3, 0, 0, 0, 1), lay(3, 0, 0, 0, 2), lay(3, 0, 1, 0, 2), lay(3, 0, 2, 0, 3)}
	var extend func(message []byte, more int)
	extend = func(message []byte, more int) {
		holdDecode(t, message, decodeByWords(message))
		if more == 0 {
			return
		}
		for _, b := range []byte{0, 1, 2, 3, 51} {
			extend(append(message[:len(message):len(message)], b), more-1)
		}
	}
	for _, head := range heads {
		extend(head, 6)
	}
}

func TestDecodeKeepsAndWritesNothing(t *testing.T) {
	for _, message := range someMessages(t) {
		room := append(bytes.Clone(message), "what stands behind"...)
		before := bytes.Clone(room)
		first := decode(room[:len(message)])
		if !bytes.Equal(room, before) {
			t.Fatalf("P2: Decode wrote into the message or behind it: %v, before %v", room, before)
		}
		spoil(room)
		if want := decodeByWords(message); !first.equals(want) {
			t.Errorf("P2: Decode kept the message: now it is %v, want %v", first, want)
		}
	}
}

func TestDecodeGivesNewMemory(t *testing.T) {
	message := lay(3, 0, 2, 0, 3, 2, 0, 9, 9, 3, 1, 1, "c")
	first, second := decode(message), decode(message)
	for tree, i := first.value.Tree, 0; i < cap(tree); i++ {
		tree[:cap(tree)][i] = api.Node{Kind: 7, Digest: 7, Event: "7"}
	}
	want := decodeByWords(message)
	if third := decode(message); !second.equals(want) || !third.equals(want) {
		t.Errorf("P2: two answers of Decode share memory: %v and %v, want %v", second, third, want)
	}
}

func FuzzDecode(f *testing.F) {
	f.Add(lay(1, 0, 1, 3, 115))
	f.Add(lay(2, 0, 3, 0, 4, 0, 9, 2, 0, 0, 1, 2, 0, 0, 2, 0, 0, 3))
	f.Add(lay(3, 0, 2, 0, 3, 2, 0, 9, 9, 3, 1, 1, "c"))
	f.Fuzz(func(t *testing.T, message []byte) {
		want := decodeByWords(message)
		holdDecode(t, message, want)
		if want.err == api.OK {
			holdEncode(t, want.value, message, true)
		}
	})
}
