package tree

import (
	"slices"
	"testing"

	"stele/api"
	"stele/sum"
	"stele/wire"
)

func TestWhole(t *testing.T) {
	for n := 1; n <= api.MaxLog; n++ {
		d := Whole(n).Depth
		if 1<<d < n || d > 0 && 1<<(d-1) >= n || d > api.MaxDepth {
			t.Errorf("Whole(%d) has the depth %d", n, d)
		}
	}
	if d := Whole(api.MaxLog).Depth; d != api.MaxDepth {
		t.Errorf("the depth of a full log is %d", d)
	}
}

func TestStretch(t *testing.T) {
	s := Stretch{Start: 4, Depth: 2}
	if s.End() != 8 || s.Left() != (Stretch{4, 1}) || s.Right() != (Stretch{6, 1}) {
		t.Errorf("%v: end %d, left %v, right %v", s, s.End(), s.Left(), s.Right())
	}
	for m := range 12 {
		if s.Holds(m) != (m >= 4 && m <= 7) || s.Below(m) != (m >= 8) || s.Beyond(m) != (m <= 4) {
			t.Errorf("%v and %d: holds %v, below %v, beyond %v", s, m, s.Holds(m), s.Below(m), s.Beyond(m))
		}
	}
}

func TestKindsOfNodes(t *testing.T) {
	root := Build([]string{"a", "b", "c"})
	top := root.(two)
	if top.Stretch != (Stretch{0, 2}) || top.left.(two).Stretch != (Stretch{0, 1}) {
		t.Errorf("the stretches on top: %v, %v", top.Stretch, top.left.(two).Stretch)
	}
	right := top.right.(alone)
	if right.Stretch != (Stretch{2, 1}) || right.only.(leaf).Stretch != (Stretch{2, 0}) {
		t.Errorf("the stretches of the last event: %v, %v", right.Stretch, right.only.(leaf).Stretch)
	}
	event := sum.Of([]byte{0, 'c'})
	if right.only.Digest() != event || right.Digest() != sum.Of([]byte{2}, wire.Two(event)) {
		t.Errorf("the digests of the last event: %d, %d", right.only.Digest(), right.Digest())
	}
	if want := sum.Of([]byte{1}, wire.Two(top.left.Digest()), wire.Two(right.Digest())); root.Digest() != want {
		t.Errorf("the digest on top is %d, want %d", root.Digest(), want)
	}
}

func TestPrune(t *testing.T) {
	root := Build([]string{"a", "b", "c"})
	ab := sum.Of([]byte{1, 3, 115, 3, 116})
	for name, c := range map[string]struct {
		rule Rule
		want []api.Node
	}{
		"member 2": {MemberRule(2), []api.Node{{Kind: api.Two}, {Kind: api.Stub, Digest: ab}, {Kind: api.Alone}, {Kind: api.Leaf, Event: "c"}}},
		"growth 3": {GrowthRule(3), []api.Node{{Kind: api.Two}, {Kind: api.Stub, Digest: ab}, {Kind: api.Alone}, {Kind: api.Stub, Digest: sum.Of([]byte{0, 'c'})}}},
		"growth 1": {GrowthRule(1), []api.Node{{Kind: api.Two}, {Kind: api.Two}, {Kind: api.Stub, Digest: 883}, {Kind: api.Stub, Digest: 884},
			{Kind: api.Stub, Digest: sum.Of([]byte{2}, wire.Two(sum.Of([]byte{0, 'c'})))}}},
		"all left out": {func(Stretch) bool { return true }, []api.Node{{Kind: api.Stub, Digest: root.Digest()}}},
	} {
		if got := root.Prune(c.rule); !slices.Equal(got, c.want) {
			t.Errorf("%s: %v, want %v", name, got, c.want)
		}
	}
}

// kindsIn gives the kinds of a list of nodes.
func kindsIn(nodes []api.Node) []int {
	kinds := make([]int, len(nodes))
	for i, n := range nodes {
		kinds[i] = n.Kind
	}
	return kinds
}

func TestKindsAreThoseOfAPrunedTree(t *testing.T) {
	for _, n := range []int{1, 2, 3, 4, 5, 6, 7, 8, 9, 15, 16, 17, 31, 33, 100} {
		root := Build(make([]string, n))
		for i := range n {
			for name, rule := range map[string]Rule{"member": MemberRule(i), "growth": GrowthRule(i + 1)} {
				if got, want := Kinds(n, rule), kindsIn(root.Prune(rule)); !slices.Equal(got, want) {
					t.Errorf("%s %d in %d: the kinds %v, want %v", name, i, n, got, want)
				}
			}
		}
	}
}

func TestSingle(t *testing.T) {
	s := Stretch{Start: 4, Depth: 2}
	for n := 5; n <= 12; n++ {
		if s.Single(n) != (n <= 6) {
			t.Errorf("%v in version %d: single %v", s, n, s.Single(n))
		}
	}
}
