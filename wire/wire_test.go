package wire

import (
	"bytes"
	"testing"
)

func TestTwo(t *testing.T) {
	for _, c := range []struct {
		number int
		want   []byte
	}{{0, []byte{0, 0}}, {1, []byte{0, 1}}, {255, []byte{0, 255}}, {256, []byte{1, 0}}, {883, []byte{3, 115}}, {65535, []byte{255, 255}}} {
		if got := Two(c.number); !bytes.Equal(got, c.want) {
			t.Errorf("Two(%d) = %v, want %v", c.number, got, c.want)
		}
	}
}

func TestJoin(t *testing.T) {
	if got := Join(); len(got) != 0 {
		t.Errorf("Join of nothing = %v", got)
	}
	room := []byte{1, 2, 3, 4}
	if got := Join(room[:1], nil, room[2:3]); !bytes.Equal(got, []byte{1, 3}) || !bytes.Equal(room, []byte{1, 2, 3, 4}) {
		t.Errorf("Join = %v, and the room of its fields is now %v", got, room)
	}
	only := Join(room)
	only[0] = 9
	if room[0] != 1 {
		t.Error("Join of one field shares its memory")
	}
}

func TestNumber(t *testing.T) {
	for number := range 1 << 16 {
		if got := Number(Two(number)); got != number {
			t.Fatalf("Number(Two(%d)) = %d", number, got)
		}
	}
}
