package stele_test

import (
	"bytes"
	"fmt"
	"slices"
	"testing"
	"unsafe"

	"stele/api"
	"stele/stele"
)

// spoil writes over a list and its spare room.
func spoil(list []byte) {
	list = list[:cap(list)]
	for i := range list {
		list[i] ^= 0xa5
	}
}

func TestSumWritesNothing(t *testing.T) {
	whole := []byte("the text, and what stands behind it")
	before := bytes.Clone(whole)
	parts := make([][]byte, 3, 8)
	parts[0], parts[1], parts[2] = whole[:3], whole[3:8], nil
	behind := parts[:8]
	behind[3] = whole[9:11]
	stele.Sum(parts...)
	if !bytes.Equal(whole, before) {
		t.Errorf("P2: Sum wrote into a part: %q", whole)
	}
	for i, want := range [][]byte{whole[:3], whole[3:8], nil, whole[9:11], nil, nil, nil, nil} {
		if !bytes.Equal(behind[i], want) || (behind[i] == nil) != (want == nil) {
			t.Errorf("P2: Sum wrote into the list of parts, at %d: %q", i, behind[i])
		}
	}
}

func TestAppendKeepsNothingOfTheText(t *testing.T) {
	memory := []byte("event")
	l := stele.NewLog()
	l.Append(unsafe.String(&memory[0], len(memory)))
	if string(memory) != "event" {
		t.Errorf("P2: Append wrote into the text: %q", memory)
	}
	copy(memory, "other")
	want := version{"event"}.member(0)
	if got, err := l.Member(0, 1); !bytes.Equal(got, want) || err != api.OK {
		t.Errorf("P2: Append kept the text: Member(0, 1) = %q, %d, want %q", got, err, want)
	}
}

func TestAnswersAreNewMemory(t *testing.T) {
	events := someEvents(33)
	l := logOf(t, events...)
	calls := map[string]func() []byte{
		"Commitment": func() []byte { m, _ := l.Commitment(33); return m },
		"Member":     func() []byte { m, _ := l.Member(7, 33); return m },
		"Growth":     func() []byte { m, _ := l.Growth(7, 33); return m },
		"a proof":    func() []byte { p, _ := l.Proofs(33); return p[7] },
	}
	for name, call := range calls {
		first, second := call(), call()
		before, room := bytes.Clone(first), bytes.Clone(second[:cap(second)])
		spoil(first)
		if !bytes.Equal(second[:cap(second)], room) {
			t.Errorf("P2: %s: two answers share memory", name)
		}
		if third := call(); !bytes.Equal(third, before) {
			t.Errorf("P2: %s: what was written into an answer is in the next: %v, want %v", name, third, before)
		}
	}
	holdVersion(t, l, events, []int{0, 7, 32})
}

func TestProofsShareNoMemory(t *testing.T) {
	l := logOf(t, someEvents(100)...)
	proofs, _ := l.Proofs(100)
	again, _ := l.Proofs(100)
	rooms := make([][]byte, len(proofs))
	for i, proof := range proofs {
		rooms[i] = bytes.Clone(proof[:cap(proof)])
	}
	for i, proof := range proofs {
		spoil(proof)
		for j, other := range proofs {
			if j != i && !bytes.Equal(other[:cap(other)], rooms[j]) {
				t.Fatalf("P2: the proofs %d and %d share memory", i, j)
			}
		}
		spoil(proof)
	}
	for i := range proofs[:cap(proofs)] {
		proofs[:cap(proofs)][i] = nil
	}
	for i, proof := range again {
		if member, _ := l.Member(i, 100); !bytes.Equal(proof, member) {
			t.Errorf("P2: two answers of Proofs share a list: %v, want %v", proof, member)
		}
	}
}

func TestLogsKnowNothingOfEachOther(t *testing.T) {
	first, second := stele.NewLog(), stele.NewLog()
	var firstEvents, secondEvents version
	for i := range 20 {
		one, other := fmt.Sprint("one", i), fmt.Sprint("other", i)
		first.Append(one)
		firstEvents = append(firstEvents, one)
		if i%2 == 0 {
			second.Append(other)
			secondEvents = append(secondEvents, other)
		}
	}
	if first.Len() != 20 || second.Len() != 10 {
		t.Errorf("P2: Len = %d and %d", first.Len(), second.Len())
	}
	holdVersion(t, first, firstEvents, []int{0, 9, 19})
	holdVersion(t, second, secondEvents, []int{0, 4, 9})
}

func TestTakeKeepsAndWritesNothing(t *testing.T) {
	v := version(someEvents(9))
	a := stele.NewAuditor()
	words := newAuditorByWords()
	for _, message := range [][]byte{v[:6].commitment(), v[:6].member(4), v.growth(6), v.member(8), v.member(3), v.growth(9), lay(7), v.commitment()} {
		room := append(bytes.Clone(message), "what stands behind"...)
		before := bytes.Clone(room)
		if got, want := a.Take(room[:len(message)]), words.take(message); got != want {
			t.Errorf("P8: Take of %v = %d, want %d", message, got, want)
		}
		if !bytes.Equal(room, before) {
			t.Errorf("P2: Take wrote into a message or behind it: %v, before %v", room, before)
		}
		spoil(room)
		holdKnown(t, a, words.versionsByN(), words.eventsInOrder())
	}
}

func TestWhatIsKnownIsNewMemory(t *testing.T) {
	v := version(someEvents(12))
	a := stele.NewAuditor()
	words := newAuditorByWords()
	words.take(v[:5].commitment())
	takeAll(t, a, v[:5].commitment())
	for _, message := range [][]byte{v[:5].member(4), v[:7].growth(5), v[:7].member(2), v[:11].growth(7), v.growth(11), v.member(9), v.member(0)} {
		versions, events := a.Versions(), a.Events()
		again, eventsAgain := a.Versions(), a.Events()
		spoilVersions(versions)
		spoilEntries(events)
		if !slices.Equal(again, words.versionsByN()) || !slices.Equal(eventsAgain, words.eventsInOrder()) {
			t.Errorf("P2: two answers share memory: %v, %v", again, eventsAgain)
		}
		holdKnown(t, a, words.versionsByN(), words.eventsInOrder())
		spoilVersions(again)
		spoilEntries(eventsAgain)
		words.take(message)
		takeAll(t, a, message)
		holdKnown(t, a, words.versionsByN(), words.eventsInOrder())
		if !slices.Equal(versions, slices.Repeat([]api.Version{{N: -7, Root: -7}}, len(versions))) {
			t.Errorf("P2: Take wrote into an answer: %v", versions)
		}
	}
}

func TestWhatCollisionShowsIsNewMemory(t *testing.T) {
	v := version{"first", "event", "third"}
	twin := ofOneSum(t, "event", "f")
	p := newPair()
	for _, message := range [][]byte{v.commitment(), v.member(1), v.with(1, twin).member(1), v.growth(3), v.member(0),
		v.with(1, ofOneSum(t, "event", "a")).member(1)} {
		p.take(t, message)
		first, second, _ := p.auditor.Collision()
		again, secondAgain, _ := p.auditor.Collision()
		before := shown{string(again), string(secondAgain), again != nil}
		behind := bytes.Clone(second[:cap(second)])
		spoil(first)
		if !bytes.Equal(second[:cap(second)], behind) {
			t.Errorf("P2: the two texts of one answer share memory")
		}
		spoil(second)
		if after := (shown{string(again), string(secondAgain), again != nil}); after != before {
			t.Errorf("P2: two answers share memory: %v, want %v", after, before)
		}
		holdShown(t, p.auditor, p.words.collision())
		holdKnown(t, p.auditor, p.words.versionsByN(), p.words.eventsInOrder())
	}
	holdTwins(t, ask(p.auditor))
}

func TestCollisionKeepsNothingOfAMessage(t *testing.T) {
	v := version{"first", "event", "third"}
	twin := ofOneSum(t, "event", "f")
	a := stele.NewAuditor()
	for _, message := range [][]byte{v.commitment(), v.member(1), v.growth(3), v.with(1, twin).member(1), v.member(2)} {
		takeAll(t, a, message)
		spoil(message)
	}
	holdShown(t, a, shown{leafText("event"), leafText(twin), true})
}

// spoilVersions and spoilEntries write over a list and its spare room.

func spoilVersions(list []api.Version) {
	list = list[:cap(list)]
	for i := range list {
		list[i] = api.Version{N: -7, Root: -7}
	}
}

func spoilEntries(list []api.Entry) {
	list = list[:cap(list)]
	for i := range list {
		list[i] = api.Entry{Index: -7, Event: "spoilt"}
	}
}

func TestAuditorsKnowNothingOfEachOther(t *testing.T) {
	one, other := version(someEvents(9)), letters("abcdefghi")
	p, q := newPair(), newPair()
	p.take(t, one[:4].commitment())
	q.take(t, other[:3].commitment())
	for i := range 3 {
		p.take(t, one[:4].member(i))
		q.take(t, other[:3].member(i))
	}
	p.take(t, one.growth(4))
	q.take(t, other[:7].growth(3))
	p.take(t, other.member(8))
	if err := q.take(t, other[:7].member(6)); err != api.OK {
		t.Errorf("P2: an auditor's own log's member: %d", err)
	}
	if err := p.take(t, one.member(8)); err != api.OK {
		t.Errorf("P2: an auditor's own log's member: %d", err)
	}
}

// Of two texts of one sum each auditor has taken one.
func TestAuditorsKnowNothingOfEachOthersTexts(t *testing.T) {
	v := version{"first", "event", "third"}
	other := v.with(1, ofOneSum(t, "event", "f"))
	a, b := stele.NewAuditor(), stele.NewAuditor()
	takeAll(t, a, v.commitment(), v.member(1))
	takeAll(t, b, other.commitment(), other.member(1))
	holdShown(t, a, shown{})
	holdShown(t, b, shown{})
	takeAll(t, a, other.member(1))
	holdTwins(t, ask(a))
	holdShown(t, b, shown{})
}
