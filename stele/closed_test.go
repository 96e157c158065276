package stele_test

import (
	"math"
	"strings"
	"testing"

	"stele/api"
	"stele/stele"
)

func veryGreatNumbers() []int {
	return []int{math.MinInt, math.MinInt + 1, math.MinInt32, -65536, -500, -1, 0, 1, 2, 3, 4, 500, 501,
		65535, 65536, 65537, math.MaxInt32, math.MaxInt32 + 1, 1 << 62, math.MaxInt - 1, math.MaxInt}
}

func TestALogThatNewLogDidNotMake(t *testing.T) {
	made := logOf(t, "a", "b", "c")
	copied := *made
	var none *stele.Log
	for name, l := range map[string]*stele.Log{"nil": none, "zero": {}, "new": new(stele.Log), "copied": &copied} {
		for _, event := range []string{"", "a", strings.Repeat("x", 51)} {
			if number, err := l.Append(event); number != 0 || err != api.ErrClosed {
				t.Errorf("P1: %s: Append of %d bytes = %d, %d", name, len(event), number, err)
			}
		}
		if l.Len() != 0 {
			t.Errorf("P1: %s: Len = %d", name, l.Len())
		}
		for _, n := range veryGreatNumbers() {
			for _, got := range append(askVersion(l, n, n), askVersion(l, 1, n)...) {
				if got.err != api.ErrClosed || !got.nothing() {
					t.Errorf("P1: %s: %s = %s, %d", name, got.call, got.told, got.err)
				}
			}
		}
	}
	if root, err := made.Root(3); made.Len() != 3 || root != (version{"a", "b", "c"}).root() || err != api.OK {
		t.Errorf("P1: the log that was copied: Len %d, Root(3) = %d, %d", made.Len(), root, err)
	}
}

func TestNewLogIsOpen(t *testing.T) {
	l := stele.NewLog()
	if l == nil {
		t.Fatal("P4: NewLog gives nil")
	}
	if _, err := l.Root(1); err != api.ErrArg {
		t.Errorf("P1: Root(1) of a new log: %d, want %d", err, api.ErrArg)
	}
}

func TestVeryGreatNumbers(t *testing.T) {
	for _, l := range []*stele.Log{stele.NewLog(), logOf(t, "a", "b", "c"), logOf(t, someEvents(api.MaxLog)...)} {
		length := l.Len()
		for _, n := range veryGreatNumbers() {
			for _, a := range veryGreatNumbers() {
				if n >= 1 && n <= length && a >= 1 && a < n {
					continue
				}
				for k, got := range askVersion(l, a, n) {
					bad := n < 1 || n > length
					bad = bad || k == 2 && (a < 0 || a >= n) || k == 3 && (a < 1 || a > n)
					if bad && (got.err != api.ErrArg || !got.nothing()) || !bad && got.err != api.OK {
						t.Fatalf("P1: with %d events %s = %s, %d", length, got.call, got.told, got.err)
					}
				}
			}
		}
	}
}

func TestAnAuditorThatNewAuditorDidNotMake(t *testing.T) {
	v := letters("abc")
	made := stele.NewAuditor()
	twin := ofOneSum(t, "b", "c")
	takeAll(t, made, v.commitment(), v.member(1), v.with(1, twin).member(1))
	copied := *made
	var none *stele.Auditor
	for name, a := range map[string]*stele.Auditor{"nil": none, "zero": {}, "new": new(stele.Auditor), "copied": &copied} {
		for _, message := range [][]byte{nil, lay(4), make([]byte, 4001), v.commitment(), v.growth(3), v.member(2)} {
			if err := a.Take(message); err != api.ErrClosed {
				t.Errorf("P1: %s: Take of %d bytes = %d", name, len(message), err)
			}
			if len(a.Versions()) != 0 || len(a.Events()) != 0 {
				t.Errorf("P1: %s: known are %v, %v", name, a.Versions(), a.Events())
			}
			if first, second, ok := a.Collision(); first != nil || second != nil || ok {
				t.Errorf("P1: %s: Collision = %q, %q, %v", name, first, second, ok)
			}
		}
	}
	holdKnown(t, made, []api.Version{{N: 3, Root: v.root()}}, []api.Entry{{Index: 1, Event: "b"}, {Index: 1, Event: twin}})
	holdShown(t, made, shown{leafText("b"), leafText(twin), true})
	takeAll(t, made, v.member(2))
}
