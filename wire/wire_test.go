package wire

import (
	"bytes"
	"strings"
	"testing"

	"stele/api"
)

func TestTwo(t *testing.T) {
	for _, c := range []struct {
		number int
		want   []byte
	}{{0, []byte{0, 0}}, {1, []byte{0, 1}}, {255, []byte{0, 255}}, {256, []byte{1, 0}}, {883, []byte{3, 115}}, {65535, []byte{255, 255}}} {
		if got := Two(c.number); !bytes.Equal(got, c.want) {
			t.Errorf("Two(%d) = %v, want %v", c.number, got, c.want)
		}
	}
}

func TestJoin(t *testing.T) {
	if got := Join(); len(got) != 0 {
		t.Errorf("Join of nothing = %v", got)
	}
	room := []byte{1, 2, 3, 4}
	if got := Join(room[:1], nil, room[2:3]); !bytes.Equal(got, []byte{1, 3}) || !bytes.Equal(room, []byte{1, 2, 3, 4}) {
		t.Errorf("Join = %v, and the room of its fields is now %v", got, room)
	}
	only := Join(room)
	only[0] = 9
	if room[0] != 1 {
		t.Error("Join of one field shares its memory")
	}
}

func TestMessage(t *testing.T) {
	long := strings.Repeat("x", api.MaxEvent)
	for _, c := range []struct {
		message api.Message
		want    []byte
	}{
		{api.Message{Kind: api.Commitment, N: 1, Root: 883}, []byte{1, 0, 1, 3, 115}},
		{api.Message{Kind: api.Commitment, N: 500, Root: 65520}, []byte{1, 1, 244, 255, 240}},
		{api.Message{Kind: api.Growth, M: 1, N: 2, Root: 258, Tree: []api.Node{{Kind: api.Two}, {Kind: api.Stub, Digest: 883}, {Kind: api.Stub, Digest: 884}}},
			[]byte{2, 0, 1, 0, 2, 1, 2, 2, 0, 3, 115, 0, 3, 116}},
		{api.Message{Kind: api.Member, M: 0, N: 1, Tree: []api.Node{{Kind: api.Leaf, Event: "a"}}}, []byte{3, 0, 0, 0, 1, 1, 1, 97}},
		{api.Message{Kind: api.Member, M: 2, N: 3, Tree: []api.Node{{Kind: api.Two}, {Kind: api.Stub}, {Kind: api.Alone}, {Kind: api.Leaf}}},
			[]byte{3, 0, 2, 0, 3, 2, 0, 0, 0, 3, 1, 0}},
		{api.Message{Kind: api.Member, M: 0, N: 1, Tree: []api.Node{{Kind: api.Leaf, Event: long}}}, append([]byte{3, 0, 0, 0, 1, 1, 50}, long...)},
	} {
		if got := Message(c.message); !bytes.Equal(got, c.want) {
			t.Errorf("Message(%v) = %v, want %v", c.message, got, c.want)
		}
	}
}
