package stele_test

import (
	"fmt"
	"strings"
	"testing"

	"stele/api"
	"stele/stele"
)

// What the document says of sums, trees and messages, word by word and by no
// means of the program's own: what the program answers is held against it.

func sumByWords(text []byte) int {
	value := 1
	for _, b := range text {
		value = (value*257 + int(b) + 1) % 65521
	}
	return value
}

func pairOfBytes(number int) []byte { return []byte{byte(number / 256), byte(number % 256)} }

func depthByWords(n int) int {
	d := 0
	for 1<<d < n {
		d++
	}
	return d
}

// version is a version of a log: its events.
type version []string

func (v version) hasTwo(p, d int) bool { return p+1<<(d-1) < len(v) }

func (v version) digest(p, d int) int {
	switch {
	case d == 0:
		return sumByWords(append([]byte{0}, v[p]...))
	case v.hasTwo(p, d):
		text := append([]byte{1}, pairOfBytes(v.digest(p, d-1))...)
		return sumByWords(append(text, pairOfBytes(v.digest(p+1<<(d-1), d-1))...))
	default:
		return sumByWords(append([]byte{2}, pairOfBytes(v.digest(p, d-1))...))
	}
}

func (v version) root() int { return v.digest(0, depthByWords(len(v))) }

func (v version) pruned(p, d int, out func(p, d int) bool) []byte {
	switch {
	case out(p, d):
		return append([]byte{0}, pairOfBytes(v.digest(p, d))...)
	case d == 0:
		return append([]byte{1, byte(len(v[p]))}, v[p]...)
	case v.hasTwo(p, d):
		left := append([]byte{2}, v.pruned(p, d-1, out)...)
		return append(left, v.pruned(p+1<<(d-1), d-1, out)...)
	default:
		return append([]byte{3}, v.pruned(p, d-1, out)...)
	}
}

func (v version) commitment() []byte {
	message := append([]byte{1}, pairOfBytes(len(v))...)
	return append(message, pairOfBytes(v.root())...)
}

func (v version) member(i int) []byte {
	message := append([]byte{3}, pairOfBytes(i)...)
	message = append(message, pairOfBytes(len(v))...)
	return append(message, v.pruned(0, depthByWords(len(v)), memberOut(i, len(v)))...)
}

func (v version) growth(m int) []byte {
	message := append([]byte{2}, pairOfBytes(m)...)
	message = append(message, pairOfBytes(len(v))...)
	message = append(message, pairOfBytes(v.root())...)
	return append(message, v.pruned(0, depthByWords(len(v)), growthOut(m, len(v)))...)
}

// memberOut and growthOut tell which nodes a proof in version n leaves out.

func memberOut(i, n int) func(p, d int) bool {
	return func(p, d int) bool {
		for event := p; event < p+1<<d && event < n; event++ {
			if event == i {
				return false
			}
		}
		return true
	}
}

func growthOut(m, n int) func(p, d int) bool {
	return func(p, d int) bool {
		below := 0
		for event := p; event < p+1<<d && event < n; event++ {
			if event < m {
				below++
			}
		}
		return below == 1<<d || below == 0
	}
}

// someEvents gives events of all lengths, with all bytes, some of them twice.
func someEvents(count int) []string {
	events := make([]string, count)
	for i := range events {
		var event strings.Builder
		for j := range i * 7 % (api.MaxEvent + 1) {
			event.WriteByte(byte(i*31 + j*j))
		}
		events[i] = event.String()
	}
	return events
}

func logOf(t *testing.T, events ...string) *stele.Log {
	t.Helper()
	l := stele.NewLog()
	for i, event := range events {
		if number, err := l.Append(event); number != i || err != api.OK {
			t.Fatalf("Append of the event %d = %d, %d", i, number, err)
		}
	}
	return l
}

// answer is what a call told, as a text, and its error.
type answer struct {
	call string
	told string
	err  api.Errno
}

// nothing tells whether each result but the error is 0, nil or empty.
func (a answer) nothing() bool { return a.told == "0" || a.told == "[]" }

// askVersion makes every call that is about version n, with a for i and m.
func askVersion(l *stele.Log, a, n int) []answer {
	root, rootErr := l.Root(n)
	commitment, commitmentErr := l.Commitment(n)
	member, memberErr := l.Member(a, n)
	growth, growthErr := l.Growth(a, n)
	proofs, proofsErr := l.Proofs(n)
	return []answer{
		{fmt.Sprintf("Root(%d)", n), fmt.Sprint(root), rootErr},
		{fmt.Sprintf("Commitment(%d)", n), fmt.Sprint(commitment), commitmentErr},
		{fmt.Sprintf("Member(%d, %d)", a, n), fmt.Sprint(member), memberErr},
		{fmt.Sprintf("Growth(%d, %d)", a, n), fmt.Sprint(growth), growthErr},
		{fmt.Sprintf("Proofs(%d)", n), fmt.Sprint(proofs), proofsErr},
	}
}
