package tree

import (
	"slices"
	"testing"

	"stele/api"
	"stele/sum"
	"stele/wire"
)

// textsOf gives the preimages of a tree, in order, as texts.
func textsOf(top Node) []string {
	var texts []string
	for _, preimage := range top.Preimages() {
		texts = append(texts, string(preimage))
	}
	slices.Sort(texts)
	return texts
}

func TestPreimagesOfATree(t *testing.T) {
	ab := sum.Of([]byte{1, 3, 115, 3, 116})
	c := sum.Of([]byte{0, 'c'})
	onlyC := sum.Of([]byte{2}, wire.Two(c))
	top := string(wire.Join([]byte{1}, wire.Two(ab), wire.Two(onlyC)))
	want := []string{"\x00a", "\x00b", "\x00c", "\x01\x03\x73\x03\x74", top, "\x02" + string(wire.Two(c))}
	slices.Sort(want)
	if got := textsOf(Build([]string{"a", "b", "c"})); !slices.Equal(got, want) {
		t.Errorf("the preimages are %q, want %q", got, want)
	}
}

func TestAStubHasNoPreimage(t *testing.T) {
	if got := Pruned(4, []api.Node{{Kind: api.Stub, Digest: 7}}).Preimages(); len(got) != 0 {
		t.Errorf("the preimages of a stub are %q", got)
	}
	nodes := []api.Node{{Kind: api.Two}, {Kind: api.Stub, Digest: 258}, {Kind: api.Alone}, {Kind: api.Leaf, Event: ""}}
	want := []string{"\x00", "\x01\x01\x02" + string(wire.Two(sum.Of([]byte{2, 1, 2}))), "\x02\x01\x02"}
	if got := textsOf(Pruned(3, nodes)); !slices.Equal(got, want) {
		t.Errorf("the preimages are %q, want %q", got, want)
	}
}

// The first preimage is that of the node on top, whose digest is its sum; all
// of a proof are among those of the whole tree, and so are those of a tree
// that was cut among those of the lesser one.
func TestPreimagesOfProofs(t *testing.T) {
	events := numbered(40)
	for n := 1; n <= len(events); n++ {
		whole := Build(events[:n])
		if first := whole.Preimages()[0]; sum.Of(first) != whole.Digest() {
			t.Errorf("version %d: the sum of %q is not the digest %d", n, first, whole.Digest())
		}
		all := textsOf(whole)
		for i := range n {
			member := textsOf(Pruned(n, whole.Prune(MemberRule(i))))
			if len(member) != Whole(n).Depth+1 || !within(member, all) {
				t.Errorf("member %d of %d: the preimages %q", i, n, member)
			}
			growth := Pruned(n, whole.Prune(GrowthRule(i+1)))
			if !within(textsOf(growth), all) || !within(textsOf(growth.Cut(i+1)), textsOf(Build(events[:i+1]))) {
				t.Errorf("growth from %d to %d: the preimages %q, cut %q", i+1, n, textsOf(growth), textsOf(growth.Cut(i+1)))
			}
		}
	}
}

func within(some []string, all []string) bool {
	return !slices.ContainsFunc(some, func(text string) bool {
		_, found := slices.BinarySearch(all, text)
		return !found
	})
}

func TestPreimagesAreNewMemory(t *testing.T) {
	top := Build([]string{"a", "b", "c"})
	want := textsOf(top)
	for _, preimage := range top.Preimages() {
		for i := range preimage {
			preimage[i] = 9
		}
	}
	if got := textsOf(top); !slices.Equal(got, want) {
		t.Errorf("what was written into a preimage is in the tree: %q", got)
	}
}
