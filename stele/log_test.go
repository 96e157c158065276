package stele_test

import (
	"bytes"
	"fmt"
	"runtime"
	"strings"
	"testing"
	"time"

	"stele/api"
	"stele/stele"
)

func TestAppendByLength(t *testing.T) {
	l := stele.NewLog()
	if l.Len() != 0 {
		t.Errorf("P4: Len of a new log = %d", l.Len())
	}
	for _, c := range []struct {
		event  string
		number int
		err    api.Errno
		length int
	}{
		{"", 0, api.OK, 1},
		{"a", 1, api.OK, 2},
		{"a", 2, api.OK, 3},
		{strings.Repeat("x", 49), 3, api.OK, 4},
		{strings.Repeat("x", 50), 4, api.OK, 5},
		{strings.Repeat("x", 51), 0, api.ErrLong, 5},
		{strings.Repeat("x", 1<<20), 0, api.ErrLong, 5},
		{strings.Repeat("é", 25), 5, api.OK, 6},
		{strings.Repeat("é", 26), 0, api.ErrLong, 6}, // 26 runes, but 52 bytes
		{strings.Repeat("\xff\x00", 25), 6, api.OK, 7},
	} {
		number, err := l.Append(c.event)
		if number != c.number || err != c.err || l.Len() != c.length {
			t.Errorf("P4: Append of %d bytes = %d, %d with Len %d; want %d, %d with Len %d",
				len(c.event), number, err, l.Len(), c.number, c.err, c.length)
		}
	}
}

func TestAppendToAFullLog(t *testing.T) {
	l := logOf(t, someEvents(api.MaxLog)...)
	before, _ := l.Root(api.MaxLog)
	for _, c := range []struct {
		event string
		want  api.Errno
	}{{"", api.ErrMany}, {strings.Repeat("x", 50), api.ErrMany}, {strings.Repeat("x", 51), api.ErrLong}} {
		if number, err := l.Append(c.event); number != 0 || err != c.want {
			t.Errorf("P4: Append of %d bytes to a full log = %d, %d, want %d", len(c.event), number, err, c.want)
		}
	}
	if after, err := l.Root(api.MaxLog); l.Len() != api.MaxLog || after != before || err != api.OK {
		t.Errorf("P4: a refused event changed the log: Len %d, root %d, before %d", l.Len(), after, before)
	}
}

func TestARefusedEventIsNotInTheLog(t *testing.T) {
	l := logOf(t, "a")
	l.Append(strings.Repeat("x", 51))
	if number, err := l.Append("b"); number != 1 || err != api.OK {
		t.Errorf("P4: Append behind a refused event = %d, %d", number, err)
	}
	want := version{"a", "b"}
	if got, err := l.Root(2); got != want.root() || err != api.OK {
		t.Errorf("P4: Root(2) behind a refused event = %d, %d, want %d", got, err, want.root())
	}
}

func TestTheExamples(t *testing.T) {
	l := logOf(t, "a", "b", "c", "d")
	two := stele.Sum([]byte{1, 3, 115, 3, 116})
	three, _ := l.Root(3)
	if root, err := l.Root(1); root != 883 || err != api.OK {
		t.Errorf("P5: Root(1) = %d, %d", root, err)
	}
	if root, err := l.Root(2); root != two || err != api.OK {
		t.Errorf("P5: Root(2) = %d, %d, want %d", root, err, two)
	}
	c := stele.Sum([]byte{0, 'c'})
	if want := stele.Sum([]byte{1}, pairOfBytes(two), pairOfBytes(stele.Sum([]byte{2}, pairOfBytes(c)))); three != want {
		t.Errorf("P5: Root(3) = %d, want %d", three, want)
	}
	four, _ := l.Root(4)
	stubs := func(digests ...int) (tree []byte) {
		for _, digest := range digests {
			tree = append(append(tree, 0), pairOfBytes(digest)...)
		}
		return tree
	}
	join := func(parts ...[]byte) []byte { return bytes.Join(parts, nil) }
	commitment, commitmentErr := l.Commitment(1)
	only, onlyErr := l.Member(0, 1)
	first, firstErr := l.Member(0, 2)
	oneTwo, oneTwoErr := l.Growth(1, 2)
	twoTwo, twoTwoErr := l.Growth(2, 2)
	threeFour, threeFourErr := l.Growth(3, 4)
	for _, x := range []struct {
		call      string
		got, want []byte
		err       api.Errno
	}{
		{"Commitment(1)", commitment, []byte{1, 0, 1, 3, 115}, commitmentErr},
		{"Member(0, 1)", only, []byte{3, 0, 0, 0, 1, 1, 1, 97}, onlyErr},
		{"Member(0, 2)", first, []byte{3, 0, 0, 0, 2, 2, 1, 1, 97, 0, 3, 116}, firstErr},
		{"Growth(1, 2)", oneTwo, join([]byte{2, 0, 1, 0, 2}, pairOfBytes(two), []byte{2, 0, 3, 115, 0, 3, 116}), oneTwoErr},
		{"Growth(2, 2)", twoTwo, join([]byte{2, 0, 2, 0, 2}, pairOfBytes(two), stubs(two)), twoTwoErr},
		{"Growth(3, 4)", threeFour, join([]byte{2, 0, 3, 0, 4}, pairOfBytes(four), []byte{2}, stubs(two),
			[]byte{2}, stubs(c, stele.Sum([]byte{0, 'd'}))), threeFourErr},
	} {
		if !bytes.Equal(x.got, x.want) || x.err != api.OK {
			t.Errorf("P5: %s = %v, %d, want %v", x.call, x.got, x.err, x.want)
		}
	}
}

// holdVersion holds all that a log tells of version n against the document's
// words; of members and growths each of those in some.
func holdVersion(t *testing.T, l *stele.Log, v version, some []int) {
	t.Helper()
	n := len(v)
	if root, err := l.Root(n); root != v.root() || err != api.OK {
		t.Errorf("P5: Root(%d) = %d, %d, want %d", n, root, err, v.root())
	}
	if got, err := l.Commitment(n); !bytes.Equal(got, v.commitment()) || err != api.OK {
		t.Errorf("P5: Commitment(%d) = %v, %d, want %v", n, got, err, v.commitment())
	}
	for _, i := range some {
		if got, err := l.Member(i, n); !bytes.Equal(got, v.member(i)) || err != api.OK {
			t.Errorf("P5: Member(%d, %d) = %v, %d, want %v", i, n, got, err, v.member(i))
		}
		if got, err := l.Growth(i+1, n); !bytes.Equal(got, v.growth(i+1)) || err != api.OK {
			t.Errorf("P5: Growth(%d, %d) = %v, %d, want %v", i+1, n, got, err, v.growth(i+1))
		}
	}
}

func TestAllOfSmallVersions(t *testing.T) {
	events := someEvents(40)
	l := stele.NewLog()
	for count := 1; count <= len(events); count++ {
		l.Append(events[count-1])
		var some []int
		for i := range count {
			some = append(some, i)
		}
		holdVersion(t, l, events[:count], some)
	}
	// Older versions stay what they were, however long the log is by now.
	for n := 1; n <= len(events); n++ {
		holdVersion(t, l, events[:n], []int{0, n / 2, n - 1})
	}
}

func TestVersionsBesideAPowerOfTwo(t *testing.T) {
	events := someEvents(api.MaxLog)
	l := logOf(t, events...)
	for _, n := range []int{63, 64, 65, 127, 128, 129, 255, 256, 257, 300, 383, 384, 385, 499, 500} {
		holdVersion(t, l, events[:n], []int{0, 1, n/2 - 1, n / 2, n - 2, n - 1})
	}
	holdVersion(t, l, events, []int{126, 127, 128, 254, 255, 256, 257, 383, 384, 447, 448, 495, 496})
}

func TestALogOfOneEvent(t *testing.T) {
	for _, event := range []string{"", "a", strings.Repeat("x", 50)} {
		holdVersion(t, logOf(t, event), version{event}, []int{0})
	}
}

func TestProofsAreTheMembers(t *testing.T) {
	events := someEvents(api.MaxLog)
	l := logOf(t, events...)
	for _, n := range []int{1, 2, 3, 4, 5, 31, 32, 33, 255, 256, 257, 500} {
		proofs, err := l.Proofs(n)
		if len(proofs) != n || err != api.OK {
			t.Fatalf("P5: Proofs(%d): %d of them, %d", n, len(proofs), err)
		}
		v := version(events[:n])
		for i, proof := range proofs {
			if member, _ := l.Member(i, n); !bytes.Equal(proof, member) {
				t.Errorf("P5: Proofs(%d)[%d] = %v, but Member tells %v", n, i, proof, member)
			}
			if i%37 == 0 && !bytes.Equal(proof, v.member(i)) {
				t.Errorf("P5: Proofs(%d)[%d] = %v, want %v", n, i, proof, v.member(i))
			}
		}
	}
}

func TestProofsLeavesNoGoroutineBehind(t *testing.T) {
	l := logOf(t, someEvents(api.MaxLog)...)
	before := runtime.NumGoroutine()
	for range 20 {
		l.Proofs(api.MaxLog)
	}
	// One that has closed its channel may still be about to end.
	after := runtime.NumGoroutine()
	for range 100 {
		if after <= before {
			return
		}
		time.Sleep(10 * time.Millisecond)
		after = runtime.NumGoroutine()
	}
	t.Errorf("Proofs left goroutines behind: %d, before %d", after, before)
}

func TestNumbersOutOfBounds(t *testing.T) {
	l := logOf(t, "a", "b", "c", "d", "e")
	for n := -2; n <= 7; n++ {
		for a := -2; a <= 7; a++ {
			for k, got := range askVersion(l, a, n) {
				bad := n < 1 || n > 5
				bad = bad || k == 2 && (a < 0 || a >= n)
				bad = bad || k == 3 && (a < 1 || a > n)
				if bad && (got.err != api.ErrArg || !got.nothing()) || !bad && (got.err != api.OK || got.nothing()) {
					t.Errorf("P5: %s = %s, %d", got.call, got.told, got.err)
				}
			}
		}
	}
}

func TestAnEmptyLogHasNoVersion(t *testing.T) {
	l := stele.NewLog()
	for n := -1; n <= 1; n++ {
		for _, got := range askVersion(l, 0, n) {
			if got.err != api.ErrArg || !got.nothing() {
				t.Errorf("P5: on an empty log %s = %s, %d", got.call, got.told, got.err)
			}
		}
	}
}

func TestAskingTwiceTellsTheSame(t *testing.T) {
	l := logOf(t, someEvents(100)...)
	for n := 1; n <= 100; n += 9 {
		first, again := fmt.Sprint(askVersion(l, 1, n)), fmt.Sprint(askVersion(l, 1, n))
		if first != again {
			t.Errorf("P5: version %d: first %s, then %s", n, first, again)
		}
	}
}
