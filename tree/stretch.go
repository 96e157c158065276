// Package tree: the tree of a log's version, and which nodes a proof leaves out.
package tree

import (
	"math/bits"
	"slices"

	"stele/api"
)

// Stretch is what a node stands for: the events from Start on, 2 to the power
// Depth of them, as far as the version goes.
type Stretch struct {
	Start, Depth int
}

// Whole gives the stretch of the node on top of version n, n at least 1.
func Whole(n int) Stretch {
	return Stretch{Start: 0, Depth: bits.Len(uint(n - 1))}
}

// End gives the number behind the last event of a stretch that is full.
func (s Stretch) End() int { return s.Start + 1<<s.Depth }

// Left gives the first half of a stretch of a depth above 0.
func (s Stretch) Left() Stretch {
	return Stretch{Start: s.Start, Depth: s.Depth - 1}
}

// Right gives the second half of a stretch of a depth above 0.
func (s Stretch) Right() Stretch {
	return Stretch{Start: s.Left().End(), Depth: s.Depth - 1}
}

// Holds tells whether the event i is in the stretch.
func (s Stretch) Holds(i int) bool { return s.Start <= i && i < s.End() }

// Below tells whether the stretch is full in version m.
func (s Stretch) Below(m int) bool { return s.End() <= m }

// Beyond tells whether the stretch has no event in version m.
func (s Stretch) Beyond(m int) bool { return s.Start >= m }

// Single tells whether a node of a depth above 0 has but one node below it in
// version n, as there is no event for the other.
func (s Stretch) Single(n int) bool { return s.Right().Beyond(n) }

// Above tells whether a node at 0 is above the one on top of version m.
func (s Stretch) Above(m int) bool { return s.Depth > Whole(m).Depth }

// LeftOut tells whether a proof with that rule leaves the node out.
func (s Stretch) LeftOut(rule Rule) bool { return rule(s) }

// Rule tells which nodes a proof leaves out, by what they stand for: so it can
// be asked of a node that is not there yet.
type Rule func(s Stretch) bool

// MemberRule is the rule of a member proof of the event i.
func MemberRule(i int) Rule {
	return func(s Stretch) bool { return !s.Holds(i) }
}

// GrowthRule is the rule of a growth proof from version m on.
func GrowthRule(m int) Rule {
	return func(s Stretch) bool { return s.Below(m) || s.Beyond(m) }
}

// Kinds gives the kinds of the nodes of a proof in version n, in order: they
// hang on no event, so they are known ahead of what a message says.
func Kinds(n int, rule Rule) []int { return kinds(Whole(n), n, rule) }

func kinds(s Stretch, n int, rule Rule) []int {
	switch {
	case s.LeftOut(rule):
		return []int{api.Stub}
	case s.Depth == 0:
		return []int{api.Leaf}
	case s.Single(n):
		return slices.Concat([]int{api.Alone}, kinds(s.Left(), n, rule))
	}
	return slices.Concat([]int{api.Two}, kinds(s.Left(), n, rule), kinds(s.Right(), n, rule))
}
