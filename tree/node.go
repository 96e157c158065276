package tree

import (
	"slices"

	"stele/api"
	"stele/sum"
)

// Node is a node of a tree. It never changes once it is made, so goroutines
// may read one tree at the same time.
type Node interface {
	// Digest gives the sum of the node's preimage.
	Digest() int
	// Prune gives what a proof tells of the node and of those below it.
	Prune(rule Rule) []api.Node
	// Cut gives the tree for version m, asked of the tree for a version that
	// begins with it: without the nodes that have no event below m.
	Cut(m int) Node
	// Preimages gives those of the node and of the ones below it. A stub has
	// none: its digest is not worked out.
	Preimages() [][]byte
}

// The digest is worked out once, when a node is made: the proofs of a version
// ask for it again and again.

type leaf struct {
	Stretch
	digest int
	event  string
}

type two struct {
	Stretch
	digest      int
	left, right Node
}

type alone struct {
	Stretch
	digest int
	only   Node
}

// stub is a node that a proof left out but for its digest.
type stub struct {
	Stretch
	digest int
}

// Build gives the tree of a version, which has at least one event.
func Build(events []string) Node {
	return build(Whole(len(events)), events)
}

func build(s Stretch, events []string) Node {
	if s.Depth == 0 {
		return newLeaf(s, events[s.Start])
	}
	left := build(s.Left(), events)
	if s.Single(len(events)) {
		return newAlone(s, left)
	}
	return newTwo(s, left, build(s.Right(), events))
}

func newLeaf(s Stretch, event string) leaf {
	digest := sum.Of(leafParts(event)...)
	return leaf{Stretch: s, digest: digest, event: event}
}

func newTwo(s Stretch, left Node, right Node) two {
	digest := sum.Of(twoParts(left, right)...)
	return two{Stretch: s, digest: digest, left: left, right: right}
}

func newAlone(s Stretch, only Node) alone {
	digest := sum.Of(aloneParts(only)...)
	return alone{Stretch: s, digest: digest, only: only}
}

func (l leaf) Digest() int  { return l.digest }
func (t two) Digest() int   { return t.digest }
func (a alone) Digest() int { return a.digest }
func (s stub) Digest() int  { return s.digest }

func (l leaf) Prune(rule Rule) []api.Node {
	if l.LeftOut(rule) {
		return leftOut(l.digest)
	}
	return []api.Node{{Kind: api.Leaf, Event: l.event}}
}

func (t two) Prune(rule Rule) []api.Node {
	if t.LeftOut(rule) {
		return leftOut(t.digest)
	}
	return slices.Concat([]api.Node{{Kind: api.Two}}, t.left.Prune(rule), t.right.Prune(rule))
}

func (a alone) Prune(rule Rule) []api.Node {
	if a.LeftOut(rule) {
		return leftOut(a.digest)
	}
	return slices.Concat([]api.Node{{Kind: api.Alone}}, a.only.Prune(rule))
}

// Prune tells of a stub that it is one, whatever the rule: no more is known.
func (s stub) Prune(rule Rule) []api.Node { return leftOut(s.digest) }

func leftOut(digest int) []api.Node {
	return []api.Node{{Kind: api.Stub, Digest: digest}}
}
