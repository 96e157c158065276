package tree

import (
	"fmt"
	"slices"
	"testing"

	"stele/api"
	"stele/sum"
	"stele/wire"
)

func TestWhole(t *testing.T) {
	for n := 1; n <= api.MaxLog; n++ {
		d := Whole(n).Depth
		if 1<<d < n || d > 0 && 1<<(d-1) >= n || d > api.MaxDepth {
			t.Errorf("Whole(%d) has the depth %d", n, d)
		}
	}
	if d := Whole(api.MaxLog).Depth; d != api.MaxDepth {
		t.Errorf("the depth of a full log is %d", d)
	}
}

func TestStretch(t *testing.T) {
	s := Stretch{Start: 4, Depth: 2}
	if s.End() != 8 || s.Left() != (Stretch{4, 1}) || s.Right() != (Stretch{6, 1}) {
		t.Errorf("%v: end %d, left %v, right %v", s, s.End(), s.Left(), s.Right())
	}
	for m := range 12 {
		if s.Holds(m) != (m >= 4 && m <= 7) || s.Below(m) != (m >= 8) || s.Beyond(m) != (m <= 4) {
			t.Errorf("%v and %d: holds %v, below %v, beyond %v", s, m, s.Holds(m), s.Below(m), s.Beyond(m))
		}
	}
}

func TestKindsOfNodes(t *testing.T) {
	root := Build([]string{"a", "b", "c"})
	top := root.(two)
	if top.Stretch != (Stretch{0, 2}) || top.left.(two).Stretch != (Stretch{0, 1}) {
		t.Errorf("the stretches on top: %v, %v", top.Stretch, top.left.(two).Stretch)
	}
	right := top.right.(alone)
	if right.Stretch != (Stretch{2, 1}) || right.only.(leaf).Stretch != (Stretch{2, 0}) {
		t.Errorf("the stretches of the last event: %v, %v", right.Stretch, right.only.(leaf).Stretch)
	}
	event := sum.Of([]byte{0, 'c'})
	if right.only.Digest() != event || right.Digest() != sum.Of([]byte{2}, wire.Two(event)) {
		t.Errorf("the digests of the last event: %d, %d", right.only.Digest(), right.Digest())
	}
	if want := sum.Of([]byte{1}, wire.Two(top.left.Digest()), wire.Two(right.Digest())); root.Digest() != want {
		t.Errorf("the digest on top is %d, want %d", root.Digest(), want)
	}
}

func TestPrune(t *testing.T) {
	root := Build([]string{"a", "b", "c"})
	ab := sum.Of([]byte{1, 3, 115, 3, 116})
	for name, c := range map[string]struct {
		rule Rule
		want []api.Node
	}{
		"member 2": {MemberRule(2), []api.Node{{Kind: api.Two}, {Kind: api.Stub, Digest: ab}, {Kind: api.Alone}, {Kind: api.Leaf, Event: "c"}}},
		"growth 3": {GrowthRule(3), []api.Node{{Kind: api.Two}, {Kind: api.Stub, Digest: ab}, {Kind: api.Alone}, {Kind: api.Stub, Digest: sum.Of([]byte{0, 'c'})}}},
		"growth 1": {GrowthRule(1), []api.Node{{Kind: api.Two}, {Kind: api.Two}, {Kind: api.Stub, Digest: 883}, {Kind: api.Stub, Digest: 884},
			{Kind: api.Stub, Digest: sum.Of([]byte{2}, wire.Two(sum.Of([]byte{0, 'c'})))}}},
		"all left out": {func(Stretch) bool { return true }, []api.Node{{Kind: api.Stub, Digest: root.Digest()}}},
	} {
		if got := root.Prune(c.rule); !slices.Equal(got, c.want) {
			t.Errorf("%s: %v, want %v", name, got, c.want)
		}
	}
}

// kindsIn gives the kinds of a list of nodes.
func kindsIn(nodes []api.Node) []int {
	kinds := make([]int, len(nodes))
	for i, n := range nodes {
		kinds[i] = n.Kind
	}
	return kinds
}

func TestKindsAreThoseOfAPrunedTree(t *testing.T) {
	for _, n := range []int{1, 2, 3, 4, 5, 6, 7, 8, 9, 15, 16, 17, 31, 33, 100} {
		root := Build(make([]string, n))
		for i := range n {
			for name, rule := range map[string]Rule{"member": MemberRule(i), "growth": GrowthRule(i + 1)} {
				if got, want := Kinds(n, rule), kindsIn(root.Prune(rule)); !slices.Equal(got, want) {
					t.Errorf("%s %d in %d: the kinds %v, want %v", name, i, n, got, want)
				}
			}
		}
	}
}

func TestSingle(t *testing.T) {
	s := Stretch{Start: 4, Depth: 2}
	for n := 5; n <= 12; n++ {
		if s.Single(n) != (n <= 6) {
			t.Errorf("%v in version %d: single %v", s, n, s.Single(n))
		}
	}
}

// someRules gives the rules of all proofs in a version of n events.
func someRules(n int) map[string]Rule {
	rules := map[string]Rule{}
	for i := range n {
		rules[fmt.Sprint("member ", i)] = MemberRule(i)
		rules[fmt.Sprint("growth ", i+1)] = GrowthRule(i + 1)
	}
	return rules
}

func numbered(n int) []string {
	events := make([]string, n)
	for i := range events {
		events[i] = fmt.Sprint("event ", i)
	}
	return events
}

func TestPrunedIsTheTreeOfItsNodes(t *testing.T) {
	for n := 1; n <= 40; n++ {
		root := Build(numbered(n))
		for name, rule := range someRules(n) {
			nodes := root.Prune(rule)
			top := Pruned(n, nodes)
			if top.Digest() != root.Digest() {
				t.Errorf("%s in %d: the digest %d, want %d", name, n, top.Digest(), root.Digest())
			}
			if got := top.Prune(rule); !slices.Equal(got, nodes) {
				t.Errorf("%s in %d: the nodes %v, want %v", name, n, got, nodes)
			}
		}
	}
}

func TestStretchesOfAPrunedTree(t *testing.T) {
	top := Pruned(3, []api.Node{{Kind: api.Two}, {Kind: api.Stub, Digest: 7}, {Kind: api.Alone}, {Kind: api.Leaf, Event: "c"}}).(two)
	if got := top.left.(stub); got != (stub{Stretch{0, 1}, 7}) {
		t.Errorf("the stub is %v", got)
	}
	right := top.right.(alone)
	if top.Stretch != (Stretch{0, 2}) || right.Stretch != (Stretch{2, 1}) || right.only.(leaf).Stretch != (Stretch{2, 0}) {
		t.Errorf("the stretches are %v, %v, %v", top.Stretch, right.Stretch, right.only.(leaf).Stretch)
	}
}

// A tree that is cut is the one that would have been built of fewer events.
func TestCutOfATree(t *testing.T) {
	events := numbered(70)
	for n := 1; n <= len(events); n++ {
		whole := Build(events[:n])
		nodes := whole.Prune(func(Stretch) bool { return false })
		for m := 1; m <= n; m++ {
			if got, want := whole.Cut(m), Build(events[:m]); got.Digest() != want.Digest() {
				t.Errorf("the tree for %d, cut to %d: the digest %d, want %d", n, m, got.Digest(), want.Digest())
			}
			grown := Pruned(n, whole.Prune(GrowthRule(m)))
			want := Build(events[:m]).Prune(GrowthRule(m))
			if got := grown.Cut(m).Prune(GrowthRule(m)); !slices.Equal(got, want) {
				t.Errorf("growth from %d to %d, cut: %v, want %v", m, n, got, want)
			}
		}
		if got := whole.Prune(func(Stretch) bool { return false }); !slices.Equal(got, nodes) {
			t.Errorf("the tree for %d is another, now that it was cut", n)
		}
	}
}

func TestAbove(t *testing.T) {
	for m, depth := range map[int]int{1: 0, 2: 1, 3: 2, 4: 2, 5: 3, 8: 3, 9: 4, 500: 9} {
		for d := range 11 {
			if got := (Stretch{Start: 0, Depth: d}).Above(m); got != (d > depth) {
				t.Errorf("depth %d above version %d: %v", d, m, got)
			}
		}
	}
}
