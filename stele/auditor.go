package stele

import (
	"cmp"
	"slices"
	"strings"

	"stele/api"
	"stele/codec"
	"stele/tree"
	"stele/twins"
)

// Auditor takes what holds.
type Auditor struct {
	// made is the auditor itself, if NewAuditor made it: so a copy is closed,
	// as that of a log is.
	made  *Auditor
	taken int
	// versions are in the order in which they came to be known, and so by n
	// too, as growth leads from the last one to a greater one.
	versions []api.Version
	// events are in order, and each is there once.
	events []api.Entry
	// texts are the preimages of the trees that were taken.
	texts twins.Texts
}

// NewAuditor makes an Auditor (P8).
func NewAuditor() *Auditor {
	a := &Auditor{}
	a.made = a
	return a
}

func (a *Auditor) closed() bool { return a == nil || a.made != a }

// Take takes a message, if it holds (P8).
func (a *Auditor) Take(message []byte) api.Errno {
	if a.closed() {
		return api.ErrClosed
	}
	m, err, _ := codec.Decode(message)
	if err != api.OK {
		return err
	}
	if a.taken >= api.MaxTaken {
		return api.ErrMany
	}
	err = a.weigh(m)
	if err == api.OK {
		a.taken++
	}
	return err
}

// weigh learns what a message tells, or says why it does not hold.
func (a *Auditor) weigh(m api.Message) api.Errno {
	switch m.Kind {
	case api.Commitment:
		return a.weighCommitment(m)
	case api.Growth:
		return a.weighGrowth(m)
	}
	return a.weighMember(m)
}

func (a *Auditor) weighCommitment(m api.Message) api.Errno {
	if len(a.versions) > 0 {
		return api.ErrUnknown
	}
	a.learnVersion(api.Version{N: m.N, Root: m.Root})
	return api.OK
}

func (a *Auditor) weighGrowth(m api.Message) api.Errno {
	last := len(a.versions) - 1
	if last < 0 || a.versions[last].N != m.M {
		return api.ErrUnknown
	}
	grown := tree.Pruned(m.N, m.Tree)
	before := grown.Cut(m.M)
	if before.Digest() != a.versions[last].Root || grown.Digest() != m.Root {
		return api.ErrWrong
	}
	a.learnTexts(before, grown)
	if m.N > m.M {
		a.learnVersion(api.Version{N: m.N, Root: m.Root})
	}
	return api.OK
}

func (a *Auditor) weighMember(m api.Message) api.Errno {
	known := slices.IndexFunc(a.versions, func(v api.Version) bool { return v.N == m.N })
	if known < 0 {
		return api.ErrUnknown
	}
	version := tree.Pruned(m.N, m.Tree)
	if version.Digest() != a.versions[known].Root {
		return api.ErrWrong
	}
	a.learnTexts(version)
	a.learnEvent(api.Entry{Index: m.M, Event: eventIn(m.Tree)})
	return api.OK
}

// eventIn gives the event of a member proof, which has one.
func eventIn(nodes []api.Node) string {
	event := ""
	for _, n := range nodes {
		if n.Kind == api.Leaf {
			event = n.Event
		}
	}
	return event
}

func (a *Auditor) learnVersion(v api.Version) { a.versions = append(a.versions, v) }

func (a *Auditor) learnEvent(e api.Entry) {
	place, known := slices.BinarySearchFunc(a.events, e, compareEntries)
	if !known {
		a.events = slices.Insert(a.events, place, e)
	}
}

func (a *Auditor) learnTexts(trees ...tree.Node) {
	for _, t := range trees {
		for _, preimage := range t.Preimages() {
			a.texts.Add(string(preimage))
		}
	}
}

// compareEntries puts events in order by their numbers, those of one number
// by their bytes.
func compareEntries(a api.Entry, b api.Entry) int {
	return cmp.Or(cmp.Compare(a.Index, b.Index), strings.Compare(a.Event, b.Event))
}

// Versions tells which versions are known (P9).
func (a *Auditor) Versions() []api.Version {
	if a.closed() {
		return nil
	}
	return slices.Clone(a.versions)
}

// Events tells which events are known (P9).
func (a *Auditor) Events() []api.Entry {
	if a.closed() {
		return nil
	}
	return slices.Clone(a.events)
}

// Collision shows two texts with one sum (P10).
func (a *Auditor) Collision() ([]byte, []byte, bool) {
	if a.closed() {
		return nil, nil, false
	}
	first, second, ok := a.texts.Least()
	if !ok {
		return nil, nil, false
	}
	return []byte(first), []byte(second), true
}
