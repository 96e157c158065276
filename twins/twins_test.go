package twins

import (
	"fmt"
	"math/rand"
	"slices"
	"testing"

	"stele/sum"
)

// answer is what Least gives.
type answer struct {
	first, second string
	ok            bool
}

func least(t *Texts) answer {
	first, second, ok := t.Least()
	return answer{first, second, ok}
}

// leastByWords goes through all pairs of texts.
func leastByWords(texts []string) answer {
	ordered := slices.Sorted(slices.Values(texts))
	for i, first := range ordered {
		for _, second := range ordered[i+1:] {
			if second != first && sum.Of([]byte(first)) == sum.Of([]byte(second)) {
				return answer{first, second, true}
			}
		}
	}
	return answer{}
}

// ofSum gives the least texts of three bytes that have this sum, in order.
func ofSum(want int, count int) []string {
	var texts []string
	for front := 0; len(texts) < count && front < 1<<16; front++ {
		for k := range 1 << 8 {
			text := []byte{byte(front >> 8), byte(front), byte(k)}
			if sum.Of(text) == want {
				texts = append(texts, string(text))
				break
			}
		}
	}
	return texts
}

func TestNothingAtFirst(t *testing.T) {
	var texts Texts
	if got := least(&texts); got != (answer{}) {
		t.Errorf("Least of no texts = %v", got)
	}
	for _, text := range []string{"", "a", "", "b", "a"} {
		texts.Add(text)
		if got := least(&texts); got != (answer{}) {
			t.Errorf("Least = %v", got)
		}
	}
}

// A text may be the empty one, whose sum is 1.
func TestTheEmptyText(t *testing.T) {
	partner := ofSum(1, 1)[0]
	for _, order := range [][]string{{"", partner}, {partner, ""}, {partner, "", partner, ""}} {
		var texts Texts
		for _, text := range order {
			texts.Add(text)
		}
		if got := least(&texts); got != (answer{"", partner, true}) {
			t.Errorf("Least of %q = %v", order, got)
		}
	}
}

// Beside the texts that are shown no third one of a sum is kept.
func TestNoMoreIsKeptThanCanBeShown(t *testing.T) {
	all := ofSum(100, 20)
	for _, order := range []func([]string){func([]string) {}, slices.Reverse[[]string]} {
		added := slices.Clone(all)
		order(added)
		var texts Texts
		for _, text := range added {
			texts.Add(text)
		}
		if len(texts.families) != 1 || !slices.Equal(texts.families[0].texts, all[:2]) {
			t.Errorf("kept are %v, want %q", texts.families, all[:2])
		}
		for _, text := range texts.families[0].texts[2:cap(texts.families[0].texts)] {
			if text != "" {
				t.Errorf("in the spare room stands %q", text)
			}
		}
	}
}

func TestLeastInAnyOrder(t *testing.T) {
	var all []string
	for _, s := range []int{0, 1, 883, 30000, 65520} {
		all = append(all, ofSum(s, 4)...)
	}
	for k := range 12 {
		all = append(all, fmt.Sprint("single ", k), "")
	}
	for seed := range 300 {
		dice := rand.New(rand.NewSource(int64(seed)))
		var texts Texts
		var added []string
		for range 60 {
			text := all[dice.Intn(len(all))]
			texts.Add(text)
			added = append(added, text)
			if got, want := least(&texts), leastByWords(added); got != want {
				t.Fatalf("Least of %q = %q, %q, %v, want %v", added, got.first, got.second, got.ok, want)
			}
		}
	}
}
