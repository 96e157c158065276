package stele_test

import (
	"fmt"
	"math/rand"
	"slices"
	"testing"

	"stele/api"
	"stele/stele"
)

// leafText is the preimage of an event.
func leafText(event string) string { return "\x00" + event }

// nodeText is the preimage of a node above one or two others.
func nodeText(digests ...int) string {
	text := []byte{byte(3 - len(digests))}
	for _, digest := range digests {
		text = append(text, pairOfBytes(digest)...)
	}
	return string(text)
}

func sumOfText(text string) int { return sumByWords([]byte(text)) }

// digestWhere gives the least digest of which fits is true.
func digestWhere(t *testing.T, fits func(digest int) bool) int {
	t.Helper()
	for digest := range 65536 {
		if fits(digest) {
			return digest
		}
	}
	t.Fatal("there is no such digest")
	return 0
}

// with gives a version that has another event at i.
func (v version) with(i int, event string) version {
	other := slices.Clone(v)
	other[i] = event
	return other
}

// holdTwins holds that two texts are a collision, in the order that is shown.
func holdTwins(t *testing.T, got shown) {
	t.Helper()
	if !got.ok || got.first >= got.second || stele.Sum([]byte(got.first)) != stele.Sum([]byte(got.second)) {
		t.Fatalf("P11: Collision = %v", got)
	}
}

func TestNoCollisionAtFirst(t *testing.T) {
	holdShown(t, stele.NewAuditor(), shown{})
	for n := 1; n <= 20; n++ {
		a := stele.NewAuditor()
		takeAll(t, a, version(someEvents(n)).commitment())
		holdShown(t, a, shown{})
	}
}

func TestNoCollisionOfAnHonestLog(t *testing.T) {
	v := version{"one", "two", "three", "four", "five", "six", "seven", "", "nine", "ten", "eleven", "twelve", "thirteen"}
	p := newPair()
	p.take(t, v[:1].commitment())
	for n := range v {
		if n > 0 {
			p.take(t, v[:n+1].growth(n))
		}
		p.take(t, v[:n+1].growth(n+1))
		for i := range n + 1 {
			p.take(t, v[:n+1].member(i))
		}
	}
	if p.words.taken < 110 || len(p.words.texts) < 40 || p.words.collision().ok {
		t.Fatalf("no fit log: %d messages, %d preimages, %v", p.words.taken, len(p.words.texts), p.words.collision())
	}
	holdShown(t, p.auditor, shown{})
}

// Also an honest log has two nodes of one sum now and then: then they are shown.
func TestCollisionOfAnHonestLog(t *testing.T) {
	event := "honest"
	v := version{event, ofOneSum(t, event, "h"), "third"}
	a := stele.NewAuditor()
	takeAll(t, a, v.commitment(), v.member(0), v.member(2))
	holdShown(t, a, shown{})
	takeAll(t, a, v.member(1))
	first, second := min(leafText(v[0]), leafText(v[1])), max(leafText(v[0]), leafText(v[1]))
	holdShown(t, a, shown{first, second, true})
}

func TestTheSamePreimageTwice(t *testing.T) {
	v := version{"same", "same", "same", "same", "same", "same"}
	a := stele.NewAuditor()
	takeAll(t, a, v[:4].commitment())
	for range 3 {
		for i := range 4 {
			takeAll(t, a, v[:4].member(i))
			holdShown(t, a, shown{})
		}
	}
	takeAll(t, a, v.growth(4))
	for i := range 6 {
		takeAll(t, a, v.growth(6), v.member(i))
		holdShown(t, a, shown{})
	}
}

// Two logs of which the other one has an event of the same digest: all is
// taken, both events are known, and the two are shown.
func TestTwoLogsOfOneDigest(t *testing.T) {
	for n := 1; n <= 20; n++ {
		v := version(someEvents(n))
		for i := range n {
			twin := ofOneSum(t, v[i], "t")
			other := v.with(i, twin)
			for m := i + 1; m <= n; m++ {
				a := stele.NewAuditor()
				takeAll(t, a, v[:m].commitment(), v[:m].member(i), other.growth(m))
				before := ask(a)
				takeAll(t, a, other.member(i))
				events := []api.Entry{{Index: i, Event: min(v[i], twin)}, {Index: i, Event: max(v[i], twin)}}
				holdKnown(t, a, a.Versions(), events)
				holdTwins(t, ask(a))
				want := shown{leafText(events[0].Event), leafText(events[1].Event), true}
				if !before.ok && ask(a) != want {
					t.Fatalf("P10: Collision = %v, want %v", ask(a), want)
				}
			}
		}
	}
}

// A member whose event has the sum of the node above it.
func TestCollisionWithinAMember(t *testing.T) {
	digest := sumOfText(leafText("event"))
	beside := digestWhere(t, func(d int) bool { return sumOfText(nodeText(digest, d)) == digest })
	a := stele.NewAuditor()
	takeAll(t, a, lay(1, 0, 2, pairOfBytes(digest)))
	takeAll(t, a, lay(3, 0, 0, 0, 2, 2, 1, 5, []byte("event"), 0, pairOfBytes(beside)))
	holdShown(t, a, shown{leafText("event"), nodeText(digest, beside), true})
}

// grow gives growth from 3 to 4, with the events 0 and 1 left out as ab, and
// the root of 3.
func grow(ab, c, d int) (message []byte, rootOf3 int) {
	rootOf3 = sumOfText(nodeText(ab, sumOfText(nodeText(c))))
	rootOf4 := sumOfText(nodeText(ab, sumOfText(nodeText(c, d))))
	message = lay(2, 0, 3, 0, 4, pairOfBytes(rootOf4), 2, 0, pairOfBytes(ab), 2, 0, pairOfBytes(c), 0, pairOfBytes(d))
	return message, rootOf3
}

// The preimages of growth are those as one for m and as one for n: the two may
// be of one of them, or one of each.
func TestCollisionWithinGrowth(t *testing.T) {
	const c = 1000
	ofC := sumOfText(nodeText(c))
	ofCD := sumOfText(nodeText(c, 77))
	equal := digestWhere(t, func(d int) bool { return sumOfText(nodeText(c, d)) == ofC })
	aboveC := digestWhere(t, func(ab int) bool { return sumOfText(nodeText(ab, ofC)) == ofC })
	aboveCD := digestWhere(t, func(ab int) bool { return sumOfText(nodeText(ab, ofCD)) == ofCD })
	for name, x := range map[string]struct {
		ab, d int
		want  shown
	}{
		"one of each":  {5000, equal, shown{nodeText(c, equal), nodeText(c), true}},
		"both for m":   {aboveC, 77, shown{nodeText(aboveC, ofC), nodeText(c), true}},
		"both for n":   {aboveCD, 77, shown{min(nodeText(aboveCD, ofCD), nodeText(c, 77)), max(nodeText(aboveCD, ofCD), nodeText(c, 77)), true}},
		"neither":      {5000, 77, shown{}},
		"a stub alone": {ofC, 77, shown{}},
	} {
		message, rootOf3 := grow(x.ab, c, x.d)
		a := stele.NewAuditor()
		takeAll(t, a, lay(1, 0, 3, pairOfBytes(rootOf3)), message)
		if got := ask(a); got != x.want {
			t.Errorf("P10: %s: Collision = %v, want %v", name, got, x.want)
		}
	}
}

// As one for m a growth has no node above the top of m: what stands there is
// worked out for n alone.
func TestGrowthFromAPowerOfTwo(t *testing.T) {
	for _, m := range []int{1, 2, 4, 8, 16} {
		for n := m; n <= 33; n++ {
			p := newPair()
			v := version(someEvents(n))
			p.take(t, v[:m].commitment())
			p.take(t, v.growth(m))
			if want := depthByWords(n) - depthByWords(m); len(p.words.texts) != want {
				t.Errorf("growth from %d to %d: %d preimages, want %d", m, n, len(p.words.texts), want)
			}
		}
	}
}

// wholeOf3 gives growth from 3 to 3.
func wholeOf3(ab, c int) []byte {
	root := sumOfText(nodeText(ab, sumOfText(nodeText(c))))
	return lay(2, 0, 3, 0, 3, pairOfBytes(root), 2, 0, pairOfBytes(ab), 3, 0, pairOfBytes(c))
}

// Growth to itself tells no new version, but its preimages were worked out.
func TestCollisionOfTwoGrowths(t *testing.T) {
	one := wholeOf3(1, 2)
	root := sumOfText(nodeText(1, sumOfText(nodeText(2))))
	c := digestWhere(t, func(c int) bool { return sumOfText(nodeText(3, sumOfText(nodeText(c)))) == root })
	other := wholeOf3(3, c)
	want := shown{nodeText(1, sumOfText(nodeText(2))), nodeText(3, sumOfText(nodeText(c))), true}
	for _, order := range [][][]byte{{one, other}, {other, one}, {one, one, other}, {other, other, one}} {
		a := stele.NewAuditor()
		takeAll(t, a, lay(1, 0, 3, pairOfBytes(root)))
		for _, message := range order {
			holdShown(t, a, shown{})
			takeAll(t, a, message)
		}
		holdShown(t, a, want)
		holdKnown(t, a, []api.Version{{N: 3, Root: root}}, nil)
	}
}

// A member of one log behind growth of another with the same root.
func TestCollisionOfGrowthAndMember(t *testing.T) {
	v := letters("abc")
	ab := sumOfText(nodeText(sumOfText(leafText("a")), sumOfText(leafText("b"))))
	top := nodeText(ab, sumOfText(nodeText(sumOfText(leafText("c")))))
	c := digestWhere(t, func(c int) bool { return sumOfText(nodeText(3, sumOfText(nodeText(c)))) == v.root() })
	a := stele.NewAuditor()
	takeAll(t, a, v.commitment(), wholeOf3(3, c))
	holdShown(t, a, shown{})
	takeAll(t, a, v.member(0))
	holdShown(t, a, shown{min(top, nodeText(3, sumOfText(nodeText(c)))), max(top, nodeText(3, sumOfText(nodeText(c)))), true})
}

func TestOneTextThatAnotherBeginsWith(t *testing.T) {
	for _, event := range []string{"", "a", "\x00", "\xff\xff", "é"} {
		longer := ofOneSum(t, event, event)
		v := version{event, "second"}
		for _, order := range [][]string{{event, longer}, {longer, event}} {
			a := stele.NewAuditor()
			takeAll(t, a, v.commitment())
			for _, text := range order {
				takeAll(t, a, v.with(0, text).member(0))
			}
			holdShown(t, a, shown{leafText(event), leafText(longer), true})
		}
	}
}

// permutations gives each order of the numbers below count.
func permutations(count int) [][]int {
	if count == 0 {
		return [][]int{nil}
	}
	var all [][]int
	for _, shorter := range permutations(count - 1) {
		for place := range count {
			all = append(all, slices.Insert(slices.Clone(shorter), place, count-1))
		}
	}
	return all
}

func TestThreeTextsOfOneSumInEachOrder(t *testing.T) {
	texts := []string{"m", ofOneSum(t, "m", "a"), ofOneSum(t, "m", "m"), ofOneSum(t, "m", "\xf0")}
	v := version{"first", "m"}
	want := shown{leafText(texts[1]), leafText("m"), true}
	for _, order := range permutations(len(texts)) {
		p := newPair()
		p.take(t, v.commitment())
		for _, k := range order {
			p.take(t, v.with(1, texts[k]).member(1))
		}
		holdShown(t, p.auditor, want)
	}
}

// Three events have twins; the least text of all has none.
func TestSeveralPairsInEachOrder(t *testing.T) {
	v := version{"d", "m", "s", ""}
	messages := [][]byte{v.member(0), v.member(1), v.member(2), v.member(3),
		v.with(0, ofOneSum(t, "d", "x")).member(0), v.with(1, ofOneSum(t, "m", "c")).member(1), v.with(2, ofOneSum(t, "s", "e")).member(2)}
	want := shown{leafText(ofOneSum(t, "m", "c")), leafText("m"), true}
	for _, order := range permutations(len(messages)) {
		a := stele.NewAuditor()
		takeAll(t, a, v.commitment())
		for _, k := range order {
			takeAll(t, a, messages[k])
		}
		holdShown(t, a, want)
	}
}

// What is shown changes while messages come: to a lesser first text, or to a
// lesser partner, and never to a greater one.
func TestWhatIsShownGetsLess(t *testing.T) {
	v := version{"k", "p"}
	k := []string{ofOneSum(t, "k", "a"), ofOneSum(t, "k", "c"), "k", ofOneSum(t, "k", "r")}
	low, lower := ofOneSum(t, "p", "b"), ofOneSum(t, "p", "A")
	a := stele.NewAuditor()
	takeAll(t, a, v.commitment())
	for _, step := range []struct {
		i     int
		event string
		want  shown
	}{
		{1, "p", shown{}},
		{0, k[3], shown{}},
		{0, "k", shown{leafText("k"), leafText(k[3]), true}},
		{1, low, shown{leafText(low), leafText("p"), true}},
		{0, k[0], shown{leafText(k[0]), leafText("k"), true}},
		{0, k[1], shown{leafText(k[0]), leafText(k[1]), true}},
		{0, "k", shown{leafText(k[0]), leafText(k[1]), true}},
		{1, lower, shown{leafText(lower), leafText(low), true}},
	} {
		takeAll(t, a, v.with(step.i, step.event).member(step.i))
		holdShown(t, a, step.want)
	}
}

// Each of these messages has a preimage that would be a twin of one known.
func TestARefusedMessageLeavesNoPreimage(t *testing.T) {
	v := version{"first", "event", "third"}
	other := v.with(1, ofOneSum(t, "event", "e"))
	wrong := other.member(1)
	wrong[len(wrong)-1] ^= 1
	a := stele.NewAuditor()
	takeAll(t, a, v.commitment(), v.member(1))
	for why, x := range map[string]struct {
		message []byte
		err     api.Errno
	}{
		"another digest":      {wrong, api.ErrWrong},
		"another number":      {append([]byte{3, 0, 0}, other.member(1)[3:]...), api.ErrShape},
		"a version not known": {other[:2].member(1), api.ErrUnknown},
		"too short":           {other.member(1)[:len(other.member(1))-1], api.ErrShort},
		"something behind":    {append(other.member(1), 0), api.ErrMore},
	} {
		holdTake(t, a, why, x.message, x.err)
		holdShown(t, a, shown{})
	}
	for range api.MaxTaken - 2 {
		takeAll(t, a, v.member(1))
	}
	holdTake(t, a, "one too many", other.member(1), api.ErrMany)
	holdShown(t, a, shown{})
}

func TestRefusedGrowthLeavesNoPreimage(t *testing.T) {
	const ab, c = 5000, 1000
	d := digestWhere(t, func(d int) bool { return sumOfText(nodeText(c, d)) == sumOfText(nodeText(c)) })
	message, rootOf3 := grow(ab, c, d)
	otherRoot := slices.Clone(message)
	otherRoot[6] ^= 1
	unknown := stele.NewAuditor()
	holdTake(t, unknown, "nothing is known", message, api.ErrUnknown)
	holdShown(t, unknown, shown{})
	wrong := stele.NewAuditor()
	takeAll(t, wrong, lay(1, 0, 3, pairOfBytes(rootOf3^1)))
	holdTake(t, wrong, "it fits its own root, not that of m", message, api.ErrWrong)
	holdShown(t, wrong, shown{})
	a := stele.NewAuditor()
	takeAll(t, a, lay(1, 0, 3, pairOfBytes(rootOf3)))
	holdTake(t, a, "it fits the root of m, not its own", otherRoot, api.ErrWrong)
	holdShown(t, a, shown{})
	takeAll(t, a, message)
	holdShown(t, a, shown{nodeText(c, d), nodeText(c), true})
	plain, _ := grow(ab, c, 77)
	past := stele.NewAuditor()
	takeAll(t, past, lay(1, 0, 3, pairOfBytes(rootOf3)), plain)
	holdTake(t, past, "it does not come from the version known last", message, api.ErrUnknown)
	holdShown(t, past, shown{})
}

// What is refused does not change what is shown either.
func TestARefusedMessageIsNotShown(t *testing.T) {
	v := version{"first", "event", "third"}
	high, low := v.with(1, ofOneSum(t, "event", "z")), v.with(1, ofOneSum(t, "event", "a"))
	wrong := low.member(1)
	wrong[len(wrong)-1] ^= 1
	a := stele.NewAuditor()
	takeAll(t, a, v.commitment(), v.member(1), high.member(1))
	want := shown{leafText("event"), leafText(high[1]), true}
	holdShown(t, a, want)
	for _, message := range [][]byte{wrong, low[:2].member(1), append(low.member(1), 1)} {
		a.Take(message)
		holdShown(t, a, want)
	}
}

// liar gives another version with the same root, of which none of the events
// from i on need have the digest of the other's.
func liar(t *testing.T, dice *rand.Rand, v version, i int) version {
	t.Helper()
	// Not each digest on the left can be led to the root by one on the right.
	for range 20 {
		other := slices.Clone(v)
		for at := i; at < len(v); at++ {
			other[at] = fmt.Sprint("lie ", dice.Intn(1000))
		}
		if endToRoot(other, v.root()) {
			return other
		}
	}
	t.Fatal("there is no such version")
	return nil
}

// endToRoot lays bytes behind the last event until the version has that root.
func endToRoot(v version, root int) bool {
	last := len(v) - 1
	start := v[last]
	for k := range 1 << 19 {
		v[last] = start + string([]byte{byte(k), byte(k >> 8), byte(k >> 16)})
		if v.root() == root {
			return true
		}
	}
	return false
}

// Whoever tells an auditor two different events of one number, in whatever
// versions, leaves two texts of one sum behind.
func TestLiarsAreFoundOut(t *testing.T) {
	for seed := range 25 {
		dice := rand.New(rand.NewSource(int64(seed)))
		m := 1 + dice.Intn(9)
		n := m + dice.Intn(12)
		v := version(someEvents(n))
		i := dice.Intn(m)
		lie := append(liar(t, dice, v[:m], i), v[m:]...)
		for order := range 2 {
			one, other := v, lie
			if order == 1 {
				one, other = lie, v
			}
			p := newPair()
			for _, message := range [][]byte{one[:m].commitment(), one[:m].member(i), other.growth(m), other.member(i)} {
				if err := p.take(t, message); err != api.OK {
					t.Fatalf("P8: from %d to %d: %d", m, n, err)
				}
			}
			holdKnown(t, p.auditor, p.words.versionsByN(),
				[]api.Entry{{Index: i, Event: min(v[i], lie[i])}, {Index: i, Event: max(v[i], lie[i])}})
			holdTwins(t, ask(p.auditor))
		}
	}
}

// Messages of two logs that share their roots, mixed: whenever two events of
// one number are known, a collision is shown.
func TestTwoEventsOfOneNumberAreACollision(t *testing.T) {
	found := 0
	for seed := range 40 {
		dice := rand.New(rand.NewSource(int64(seed)))
		m := 2 + dice.Intn(7)
		v := version(someEvents(m + dice.Intn(9)))
		lie := append(liar(t, dice, v[:m], dice.Intn(m)), v[m:]...)
		p := newPair()
		p.take(t, v[:m].commitment())
		for range 60 {
			p.take(t, someMessage(dice, p.words, v, lie))
			for k, entry := range p.auditor.Events() {
				if k > 0 && p.auditor.Events()[k-1].Index == entry.Index {
					found++
					holdTwins(t, ask(p.auditor))
				}
			}
		}
	}
	if found == 0 {
		t.Error("no auditor came to know two events of one number")
	}
}

// An auditor that took as much as it may, of the greatest log.
func TestCollisionOfAFullAuditor(t *testing.T) {
	l := logOf(t, someEvents(api.MaxLog)...)
	for seed := range 3 {
		a, words := stele.NewAuditor(), newAuditorByWords()
		messages := told(l, rand.New(rand.NewSource(int64(seed))))
		takeAll(t, a, messages...)
		for _, message := range messages {
			words.take(message)
		}
		holdShown(t, a, words.collision())
		slices.Reverse(messages)
		for _, message := range messages {
			if err := a.Take(message); err != api.ErrMany {
				t.Fatalf("P8: behind %d messages: %d", api.MaxTaken, err)
			}
		}
		holdShown(t, a, words.collision())
	}
}
