package stele_test

import (
	"bytes"
	"fmt"
	"testing"
	"unsafe"

	"stele/api"
	"stele/stele"
)

// spoil writes over a list and its spare room.
func spoil(list []byte) {
	list = list[:cap(list)]
	for i := range list {
		list[i] ^= 0xa5
	}
}

func TestSumWritesNothing(t *testing.T) {
	whole := []byte("the text, and what stands behind it")
	before := bytes.Clone(whole)
	parts := make([][]byte, 3, 8)
	parts[0], parts[1], parts[2] = whole[:3], whole[3:8], nil
	behind := parts[:8]
	behind[3] = whole[9:11]
	stele.Sum(parts...)
	if !bytes.Equal(whole, before) {
		t.Errorf("P2: Sum wrote into a part: %q", whole)
	}
	for i, want := range [][]byte{whole[:3], whole[3:8], nil, whole[9:11], nil, nil, nil, nil} {
		if !bytes.Equal(behind[i], want) || (behind[i] == nil) != (want == nil) {
			t.Errorf("P2: Sum wrote into the list of parts, at %d: %q", i, behind[i])
		}
	}
}

func TestAppendKeepsNothingOfTheText(t *testing.T) {
	memory := []byte("event")
	l := stele.NewLog()
	l.Append(unsafe.String(&memory[0], len(memory)))
	if string(memory) != "event" {
		t.Errorf("P2: Append wrote into the text: %q", memory)
	}
	copy(memory, "other")
	want := version{"event"}.member(0)
	if got, err := l.Member(0, 1); !bytes.Equal(got, want) || err != api.OK {
		t.Errorf("P2: Append kept the text: Member(0, 1) = %q, %d, want %q", got, err, want)
	}
}

func TestAnswersAreNewMemory(t *testing.T) {
	events := someEvents(33)
	l := logOf(t, events...)
	calls := map[string]func() []byte{
		"Commitment": func() []byte { m, _ := l.Commitment(33); return m },
		"Member":     func() []byte { m, _ := l.Member(7, 33); return m },
		"Growth":     func() []byte { m, _ := l.Growth(7, 33); return m },
		"a proof":    func() []byte { p, _ := l.Proofs(33); return p[7] },
	}
	for name, call := range calls {
		first, second := call(), call()
		before, room := bytes.Clone(first), bytes.Clone(second[:cap(second)])
		spoil(first)
		if !bytes.Equal(second[:cap(second)], room) {
			t.Errorf("P2: %s: two answers share memory", name)
		}
		if third := call(); !bytes.Equal(third, before) {
			t.Errorf("P2: %s: what was written into an answer is in the next: %v, want %v", name, third, before)
		}
	}
	holdVersion(t, l, events, []int{0, 7, 32})
}

func TestProofsShareNoMemory(t *testing.T) {
	l := logOf(t, someEvents(100)...)
	proofs, _ := l.Proofs(100)
	again, _ := l.Proofs(100)
	rooms := make([][]byte, len(proofs))
	for i, proof := range proofs {
		rooms[i] = bytes.Clone(proof[:cap(proof)])
	}
	for i, proof := range proofs {
		spoil(proof)
		for j, other := range proofs {
			if j != i && !bytes.Equal(other[:cap(other)], rooms[j]) {
				t.Fatalf("P2: the proofs %d and %d share memory", i, j)
			}
		}
		spoil(proof)
	}
	for i := range proofs[:cap(proofs)] {
		proofs[:cap(proofs)][i] = nil
	}
	for i, proof := range again {
		if member, _ := l.Member(i, 100); !bytes.Equal(proof, member) {
			t.Errorf("P2: two answers of Proofs share a list: %v, want %v", proof, member)
		}
	}
}

func TestLogsKnowNothingOfEachOther(t *testing.T) {
	first, second := stele.NewLog(), stele.NewLog()
	var firstEvents, secondEvents version
	for i := range 20 {
		one, other := fmt.Sprint("one", i), fmt.Sprint("other", i)
		first.Append(one)
		firstEvents = append(firstEvents, one)
		if i%2 == 0 {
			second.Append(other)
			secondEvents = append(secondEvents, other)
		}
	}
	if first.Len() != 20 || second.Len() != 10 {
		t.Errorf("P2: Len = %d and %d", first.Len(), second.Len())
	}
	holdVersion(t, first, firstEvents, []int{0, 9, 19})
	holdVersion(t, second, secondEvents, []int{0, 4, 9})
}
