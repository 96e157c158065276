package stele_test

import (
	"fmt"
	"slices"
	"sort"
	"testing"

	"stele/api"
	"stele/stele"
)

// What the document says of an auditor, word by word.

// spot is where a node stands: at p, of depth d.
type spot struct{ p, d int }

// prunedTree has the nodes of a message by where they stand.
type prunedTree map[spot]api.Node

func prunedTreeOf(m api.Message) prunedTree {
	nodes, tree := m.Tree, prunedTree{}
	var walk func(p, d int)
	walk = func(p, d int) {
		n := nodes[0]
		nodes, tree[spot{p, d}] = nodes[1:], n
		if n.Kind >= 2 {
			walk(p, d-1)
		}
		if n.Kind == 2 {
			walk(p+1<<(d-1), d-1)
		}
	}
	walk(0, depthByWords(m.N))
	return tree
}

// digest is that of the node at p of depth d, which has two or one as it has
// in version v.
func (w prunedTree) digest(p, d, v int) int {
	n, ok := w[spot{p, d}]
	if !ok {
		panic("a node that the tree has not")
	}
	if n.Kind == 0 {
		return n.Digest
	}
	return sumByWords(w.preimage(p, d, v))
}

// preimage is that of a node that is no stub.
func (w prunedTree) preimage(p, d, v int) []byte {
	switch {
	case d == 0:
		return append([]byte{0}, w[spot{p, d}].Event...)
	case p+1<<(d-1) < v:
		text := append([]byte{1}, pairOfBytes(w.digest(p, d-1, v))...)
		return append(text, pairOfBytes(w.digest(p+1<<(d-1), d-1, v))...)
	default:
		return append([]byte{2}, pairOfBytes(w.digest(p, d-1, v))...)
	}
}

func (w prunedTree) as(v int) int { return w.digest(0, depthByWords(v), v) }

// preimagesAs are those that the digest as one for v is worked out of.
func (w prunedTree) preimagesAs(v int) []string {
	var texts []string
	for at, n := range w {
		if n.Kind != 0 && at.p < v && at.d <= depthByWords(v) {
			texts = append(texts, string(w.preimage(at.p, at.d, v)))
		}
	}
	return texts
}

// auditorByWords knows what an auditor is to know.
type auditorByWords struct {
	taken    int
	versions []api.Version // the one known last is the last
	events   map[api.Entry]int
	texts    []string // in order, each once
}

func newAuditorByWords() *auditorByWords {
	return &auditorByWords{events: map[api.Entry]int{}}
}

func (a *auditorByWords) take(message []byte) api.Errno {
	told := decodeByWords(message)
	if told.err != api.OK {
		return told.err
	}
	if a.taken == 300 {
		return api.ErrMany
	}
	if err := a.refuses(told.value); err != api.OK {
		return err
	}
	a.taken++
	a.workOut(told.value)
	switch m := told.value; {
	case m.Kind == 1, m.Kind == 2 && m.N != m.M:
		a.versions = append(a.versions, api.Version{N: m.N, Root: m.Root})
	case m.Kind == 3:
		event := prunedTreeOf(m)[spot{m.M, 0}].Event
		a.events[api.Entry{Index: m.M, Event: event}]++
	}
	return api.OK
}

// workOut keeps the preimages of a message that is taken.
func (a *auditorByWords) workOut(m api.Message) {
	if m.Kind == 1 {
		return
	}
	texts := prunedTreeOf(m).preimagesAs(m.N)
	if m.Kind == 2 {
		texts = append(texts, prunedTreeOf(m).preimagesAs(m.M)...)
	}
	for _, text := range texts {
		if place := sort.SearchStrings(a.texts, text); place == len(a.texts) || a.texts[place] != text {
			a.texts = slices.Insert(a.texts, place, text)
		}
	}
}

// collision is what Collision is to show.
func (a *auditorByWords) collision() shown {
	count := map[int]int{}
	for _, text := range a.texts {
		count[sumByWords([]byte(text))]++
	}
	var found []string
	for _, text := range a.texts {
		s := sumByWords([]byte(text))
		if count[s] > 1 && (len(found) == 0 || s == sumByWords([]byte(found[0]))) {
			found = append(found, text)
		}
	}
	if len(found) == 0 {
		return shown{}
	}
	return shown{found[0], found[1], true}
}

func (a *auditorByWords) refuses(m api.Message) api.Errno {
	known := map[int]int{}
	last := 0
	for _, v := range a.versions {
		known[v.N], last = v.Root, v.N
	}
	root, ok := known[m.N]
	switch {
	case m.Kind == 1 && last != 0, m.Kind == 2 && m.M != last, m.Kind == 3 && !ok:
		return api.ErrUnknown
	case m.Kind == 2 && (prunedTreeOf(m).as(m.M) != known[m.M] || prunedTreeOf(m).as(m.N) != m.Root):
		return api.ErrWrong
	case m.Kind == 3 && prunedTreeOf(m).as(m.N) != root:
		return api.ErrWrong
	}
	return api.OK
}

func (a *auditorByWords) versionsByN() []api.Version {
	list := slices.Clone(a.versions)
	sort.Slice(list, func(i, j int) bool { return list[i].N < list[j].N })
	return list
}

func (a *auditorByWords) eventsInOrder() []api.Entry {
	var list []api.Entry
	for entry := range a.events {
		list = append(list, entry)
	}
	sort.Slice(list, func(i, j int) bool {
		if list[i].Index != list[j].Index {
			return list[i].Index < list[j].Index
		}
		return list[i].Event < list[j].Event
	})
	return list
}

// pair is an auditor, and the document's words of it.
type pair struct {
	auditor *stele.Auditor
	words   *auditorByWords
}

func newPair() *pair { return &pair{stele.NewAuditor(), newAuditorByWords()} }

// take hands a message to both, and holds what they answer and know against
// each other.
func (p *pair) take(t *testing.T, message []byte) api.Errno {
	t.Helper()
	want := p.words.take(message)
	if got := p.auditor.Take(message); got != want {
		t.Fatalf("P8: Take of %v = %d, want %d; known are %v", message, got, want, p.words.versions)
	}
	holdKnown(t, p.auditor, p.words.versionsByN(), p.words.eventsInOrder())
	holdShown(t, p.auditor, p.words.collision())
	return want
}

// holdKnown holds what an auditor knows against what it is to know.
func holdKnown(t *testing.T, a *stele.Auditor, versions []api.Version, events []api.Entry) {
	t.Helper()
	if got := a.Versions(); !slices.Equal(got, versions) {
		t.Fatalf("P9: Versions = %v, want %v", got, versions)
	}
	if got := a.Events(); !slices.Equal(got, events) {
		t.Fatalf("P9: Events = %v, want %v", got, events)
	}
}

// shown is what Collision answers.
type shown struct {
	first, second string
	ok            bool
}

func (s shown) String() string { return fmt.Sprintf("%q, %q, %v", s.first, s.second, s.ok) }

func ask(a *stele.Auditor) shown {
	first, second, ok := a.Collision()
	return shown{string(first), string(second), ok}
}

// holdShown holds what Collision answers against what it is to answer.
func holdShown(t *testing.T, a *stele.Auditor, want shown) {
	t.Helper()
	if got := ask(a); got != want {
		t.Fatalf("P10: Collision = %v, want %v", got, want)
	}
}

// takeAll hands messages to an auditor that must take each of them.
func takeAll(t *testing.T, a *stele.Auditor, messages ...[]byte) {
	t.Helper()
	for i, message := range messages {
		if err := a.Take(message); err != api.OK {
			t.Fatalf("P8: Take of the message %d, %v = %d", i, message, err)
		}
	}
}
