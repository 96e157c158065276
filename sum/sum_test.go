package sum

import "testing"

func TestOf(t *testing.T) {
	for _, c := range []struct {
		parts [][]byte
		want  int
	}{
		{nil, 1},
		{[][]byte{{}}, 1},
		{[][]byte{{0}}, 258},
		{[][]byte{{97}}, 355},
		{[][]byte{{0}, nil, {97}}, 883},
		{[][]byte{{0, 98}}, 884},
	} {
		if got := Of(c.parts...); got != c.want {
			t.Errorf("Of(%v) = %d, want %d", c.parts, got, c.want)
		}
	}
}
