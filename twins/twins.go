// Package twins: different texts that have one sum.
package twins

import (
	"slices"

	"stele/sum"
)

// kept is how many texts of one sum are kept: a text that two others of its sum
// are less than is never among those shown, whatever is added later.
const kept = 2

// family is the least of the texts that have one sum, in order, each once.
type family struct {
	sum   int
	texts []string
}

// Texts has the texts that were added, as far as they may ever be shown. One
// that is empty is ready for use.
type Texts struct {
	// families are in order by their sums.
	families []family
}

// Add adds a text; one that is there already changes nothing.
func (t *Texts) Add(text string) {
	s := sum.Of([]byte(text))
	place, known := slices.BinarySearchFunc(t.families, s, compareSum)
	if !known {
		t.families = slices.Insert(t.families, place, family{sum: s})
	}
	t.families[place].add(text)
}

func compareSum(f family, s int) int { return f.sum - s }

func (f *family) add(text string) {
	place, known := slices.BinarySearch(f.texts, text)
	if known || place >= kept {
		return
	}
	f.texts = slices.Insert(f.texts, place, text)
	if len(f.texts) > kept {
		f.texts = slices.Delete(f.texts, kept, len(f.texts))
	}
}

// Least gives the least text that has a partner (another text of its sum), and
// its least partner, if there is such a text.
func (t *Texts) Least() (string, string, bool) {
	first, second, found := "", "", false
	for _, f := range t.families {
		if len(f.texts) < kept {
			continue
		}
		if !found || f.texts[0] < first {
			first, second, found = f.texts[0], f.texts[1], true
		}
	}
	return first, second, found
}
