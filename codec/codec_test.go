package codec

import (
	"bytes"
	"strings"
	"testing"

	"stele/api"
)

func TestWrite(t *testing.T) {
	long := strings.Repeat("x", api.MaxEvent)
	for _, c := range []struct {
		message api.Message
		want    []byte
	}{
		{api.Message{Kind: api.Commitment, N: 1, Root: 883}, []byte{1, 0, 1, 3, 115}},
		{api.Message{Kind: api.Commitment, N: 500, Root: 65520}, []byte{1, 1, 244, 255, 240}},
		{api.Message{Kind: api.Growth, M: 1, N: 2, Root: 258, Tree: []api.Node{{Kind: api.Two}, {Kind: api.Stub, Digest: 883}, {Kind: api.Stub, Digest: 884}}},
			[]byte{2, 0, 1, 0, 2, 1, 2, 2, 0, 3, 115, 0, 3, 116}},
		{api.Message{Kind: api.Member, M: 0, N: 1, Tree: []api.Node{{Kind: api.Leaf, Event: "a"}}}, []byte{3, 0, 0, 0, 1, 1, 1, 97}},
		{api.Message{Kind: api.Member, M: 2, N: 3, Tree: []api.Node{{Kind: api.Two}, {Kind: api.Stub}, {Kind: api.Alone}, {Kind: api.Leaf}}},
			[]byte{3, 0, 2, 0, 3, 2, 0, 0, 0, 3, 1, 0}},
		{api.Message{Kind: api.Member, M: 0, N: 1, Tree: []api.Node{{Kind: api.Leaf, Event: long}}}, append([]byte{3, 0, 0, 0, 1, 1, 50}, long...)},
	} {
		if got := Write(c.message); !bytes.Equal(got, c.want) {
			t.Errorf("Write(%v) = %v, want %v", c.message, got, c.want)
		}
	}
}

func TestLayoutsAreWhatIsWritten(t *testing.T) {
	for kind := -1; kind <= 256; kind++ {
		where, known := layoutOf(kind)
		if known != (kind >= api.Commitment && kind <= api.Member) {
			t.Errorf("layoutOf(%d) knows the kind: %v", kind, known)
		}
		if !known {
			continue
		}
		head := Write(api.Message{Kind: kind, M: 258, N: 772, Root: 1286})
		if len(head) != where.tree {
			t.Errorf("kind %d: the tree is at %d, but %d bytes are written ahead of it", kind, where.tree, len(head))
		}
		for place, want := range map[int]int{where.m: 258, where.n: 772, where.root: 1286} {
			if got := numberAt(head, place); place != 0 && got != want {
				t.Errorf("kind %d: at %d there is %d, want %d", kind, place, got, want)
			}
		}
	}
}

func TestTakeStaysWithinTheMessage(t *testing.T) {
	room := []byte{1, 2, 3, 4}
	r := &reader{message: room[:3]}
	if taken, ok := r.take(2); !ok || !bytes.Equal(taken, []byte{1, 2}) || r.place != 2 {
		t.Errorf("take(2) = %v, %v, and the place is %d", taken, ok, r.place)
	}
	if taken, ok := r.take(2); ok || taken != nil || r.place != 2 {
		t.Errorf("take(2) where one byte is left = %v, %v, and the place is %d", taken, ok, r.place)
	}
	if taken, ok := r.take(1); !ok || !bytes.Equal(taken, []byte{3}) {
		t.Errorf("take(1) of the last byte = %v, %v", taken, ok)
	}
	if taken, ok := r.take(0); !ok || len(taken) != 0 {
		t.Errorf("take(0) at the end = %v, %v", taken, ok)
	}
}
