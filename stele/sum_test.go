package stele_test

import (
	"bytes"
	"testing"

	"stele/stele"
)

func TestSumOfTheExamples(t *testing.T) {
	for _, c := range []struct {
		parts [][]byte
		want  int
	}{
		{nil, 1},
		{[][]byte{}, 1},
		{[][]byte{nil}, 1},
		{[][]byte{{}, nil, {}}, 1},
		{[][]byte{{0}}, 258},
		{[][]byte{{97}}, 355},
		{[][]byte{{0}, {97}}, 883},
		{[][]byte{{0, 97}}, 883},
		{[][]byte{nil, {0}, {}, {97}, nil}, 883},
		{[][]byte{{97}, {0}}, (355*257 + 1) % 65521},
		{[][]byte{{255}}, 513},
	} {
		if got := stele.Sum(c.parts...); got != c.want {
			t.Errorf("P3: Sum(%v) = %d, want %d", c.parts, got, c.want)
		}
	}
}

func TestSumWhereverTheTextIsCut(t *testing.T) {
	text := make([]byte, 256)
	for i := range text {
		text[i] = byte(i*i + 3*i)
	}
	want := sumByWords(text)
	for i := range text {
		for j := i; j <= len(text); j++ {
			if got := stele.Sum(text[:i], text[i:j], text[j:]); got != want {
				t.Fatalf("P3: Sum of the parts cut at %d and %d = %d, want %d", i, j, got, want)
			}
		}
	}
}

func TestSumOfLongTexts(t *testing.T) {
	for _, b := range []byte{0, 1, 127, 128, 254, 255} {
		text := bytes.Repeat([]byte{b}, 100000)
		got := stele.Sum(text)
		if got != sumByWords(text) || got < 0 || got > 65520 {
			t.Errorf("P3: Sum of 100000 times %d = %d, want %d", b, got, sumByWords(text))
		}
	}
}

func TestSumsReachBothEnds(t *testing.T) {
	low, high := false, false
	for first := range 256 {
		for second := range 256 {
			text := []byte{byte(first), byte(second)}
			got := stele.Sum(text)
			if got != sumByWords(text) {
				t.Fatalf("P3: Sum(%v) = %d, want %d", text, got, sumByWords(text))
			}
			low, high = low || got == 0, high || got == 65520
		}
	}
	if !low || !high {
		t.Errorf("P3: among the sums of two bytes 0 is %v, 65520 %v", low, high)
	}
}
