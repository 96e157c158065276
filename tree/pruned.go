package tree

import "stele/api"

// Pruned gives the pruned tree for version n that has these nodes, each one
// ahead of its own. Whoever read them has seen to it that they make up a tree.
func Pruned(n int, nodes []api.Node) Node {
	top, _ := pruned(Whole(n), nodes)
	return top
}

// pruned gives the node that is the first in the list, and what stands in the
// list behind those below it.
func pruned(s Stretch, nodes []api.Node) (Node, []api.Node) {
	first, rest := nodes[0], nodes[1:]
	switch first.Kind {
	case api.Stub:
		return stub{Stretch: s, digest: first.Digest}, rest
	case api.Leaf:
		return newLeaf(s, first.Event), rest
	}
	left, rest := pruned(s.Left(), rest)
	if first.Kind == api.Alone {
		return newAlone(s, left), rest
	}
	right, rest := pruned(s.Right(), rest)
	return newTwo(s, left, right), rest
}

func (l leaf) Cut(m int) Node { return l }

func (s stub) Cut(m int) Node { return s }

func (a alone) Cut(m int) Node { return newAlone(a.Stretch, a.only.Cut(m)) }

// Cut of a node that has two: those above the top of version m are all of this
// kind, as the events of m fill no more than their left half.
func (t two) Cut(m int) Node {
	left := t.left.Cut(m)
	switch {
	case t.Above(m):
		return left
	case t.Single(m):
		return newAlone(t.Stretch, left)
	}
	return newTwo(t.Stretch, left, t.right.Cut(m))
}
