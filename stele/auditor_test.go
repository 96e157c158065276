package stele_test

import (
	"fmt"
	"math/rand"
	"slices"
	"strings"
	"testing"

	"stele/api"
	"stele/stele"
)

func letters(text string) version { return strings.Split(text, "") }

// holdTake holds the answer to one message, and that one with an error changes
// nothing.
func holdTake(t *testing.T, a *stele.Auditor, why string, message []byte, want api.Errno) {
	t.Helper()
	versions, events, collision := a.Versions(), a.Events(), ask(a)
	if got := a.Take(message); got != want {
		t.Errorf("P8: %s: Take of %v = %d, want %d", why, message, got, want)
	}
	if want != api.OK {
		holdKnown(t, a, versions, events)
		holdShown(t, a, collision)
	}
}

func TestTheExamplesAreTaken(t *testing.T) {
	a := stele.NewAuditor()
	takeAll(t, a, lay(1, 0, 1, 3, 115), lay(3, 0, 0, 0, 1, 1, 1, 97))
	holdKnown(t, a, []api.Version{{N: 1, Root: 883}}, []api.Entry{{Index: 0, Event: "a"}})
	root := sumByWords([]byte{1, 3, 115, 3, 116})
	takeAll(t, a, lay(2, 0, 1, 0, 2, pairOfBytes(root), 2, 0, 3, 115, 0, 3, 116))
	takeAll(t, a, lay(2, 0, 2, 0, 2, pairOfBytes(root), 0, pairOfBytes(root)))
	takeAll(t, a, lay(3, 0, 0, 0, 2, 2, 1, 1, 97, 0, 3, 116), lay(3, 0, 1, 0, 2, 2, 0, 3, 115, 1, 1, 98))
	holdKnown(t, a, []api.Version{{N: 1, Root: 883}, {N: 2, Root: root}},
		[]api.Entry{{Index: 0, Event: "a"}, {Index: 1, Event: "b"}})
}

func TestAnAuditorKnowsNothingAtFirst(t *testing.T) {
	v := letters("abcdef")
	a := stele.NewAuditor()
	holdKnown(t, a, nil, nil)
	for n := 1; n <= 6; n++ {
		holdTake(t, a, "a member, and nothing known", v[:n].member(0), api.ErrUnknown)
		holdTake(t, a, "growth, and nothing known", v[:n].growth(1), api.ErrUnknown)
		holdTake(t, a, "growth from n to n, and nothing known", v[:n].growth(n), api.ErrUnknown)
	}
	holdTake(t, a, "the first commitment", v.commitment(), api.OK)
}

func TestASecondCommitment(t *testing.T) {
	v := letters("abcdef")
	a := stele.NewAuditor()
	takeAll(t, a, v[:3].commitment())
	known := []api.Version{{N: 3, Root: v[:3].root()}}
	holdKnown(t, a, known, nil)
	for n := 1; n <= 6; n++ {
		holdTake(t, a, "a second commitment", v[:n].commitment(), api.ErrUnknown)
	}
	holdTake(t, a, "another root", lay(1, 0, 3, 0, 0), api.ErrUnknown)
	takeAll(t, a, v[:5].growth(3))
	for n := 1; n <= 6; n++ {
		holdTake(t, a, "a commitment behind growth", v[:n].commitment(), api.ErrUnknown)
	}
}

// A root may be any number of two bytes, also one that no text has as its sum.
func TestRootsThatAreNoSums(t *testing.T) {
	for _, root := range []int{0, 1, 65520, 65521, 65535} {
		a := stele.NewAuditor()
		takeAll(t, a, lay(1, 1, 0, pairOfBytes(root)), lay(2, 1, 0, 1, 0, pairOfBytes(root), 0, pairOfBytes(root)))
		holdKnown(t, a, []api.Version{{N: 256, Root: root}}, nil)
		holdTake(t, a, "a root that is the same modulo 65521, or another", lay(2, 1, 0, 1, 0, pairOfBytes(root), 0, pairOfBytes((root+65521)%65536)), api.ErrWrong)
	}
}

func TestFromWhichVersionGrowthComes(t *testing.T) {
	v := version(someEvents(20))
	a := stele.NewAuditor()
	takeAll(t, a, v[:3].commitment(), v[:7].growth(3), v[:12].growth(7))
	for n := 1; n <= 20; n++ {
		for m := 1; m <= n; m++ {
			if m != 12 {
				holdTake(t, a, fmt.Sprintf("growth from %d to %d, 12 known last", m, n), v[:n].growth(m), api.ErrUnknown)
			}
		}
	}
	holdTake(t, a, "growth from 12 to 12", v[:12].growth(12), api.OK)
	holdKnown(t, a, []api.Version{{N: 3, Root: v[:3].root()}, {N: 7, Root: v[:7].root()}, {N: 12, Root: v[:12].root()}}, nil)
	holdTake(t, a, "growth from 12 to 13", v[:13].growth(12), api.OK)
	holdTake(t, a, "growth from 12 to 13 again", v[:13].growth(12), api.ErrUnknown)
}

func TestGrowthThatDoesNotFit(t *testing.T) {
	for n := 2; n <= 34; n++ {
		v := version(someEvents(n))
		for m := 1; m < n; m++ {
			a := stele.NewAuditor()
			takeAll(t, a, v[:m].commitment())
			other := slices.Clone(v)
			other[m/2] += "!"
			holdTake(t, a, "it fits its own root, not that of m", other.growth(m), api.ErrWrong)
			ownRoot := v.growth(m)
			ownRoot[6] ^= 1
			holdTake(t, a, "it fits the root of m, not its own", ownRoot, api.ErrWrong)
			later := slices.Clone(v)
			later[n-1] += "!"
			mixed := later.growth(m)
			copy(mixed[5:7], pairOfBytes(v.root()))
			holdTake(t, a, "it fits the root of m, and has another's root", mixed, api.ErrWrong)
			copy(ownRoot[5:7], pairOfBytes(v[:m].root()))
			holdTake(t, a, "it has the root of m for its own", ownRoot, api.ErrWrong)
			holdTake(t, a, "another end, and its root", later.growth(m), api.OK)
			holdKnown(t, a, []api.Version{{N: m, Root: v[:m].root()}, {N: n, Root: later.root()}}, nil)
		}
	}
}

func TestGrowthToItself(t *testing.T) {
	for n := 1; n <= 33; n++ {
		v := version(someEvents(n))
		a := stele.NewAuditor()
		takeAll(t, a, v.commitment(), v.growth(n), v.growth(n))
		known := []api.Version{{N: n, Root: v.root()}}
		holdKnown(t, a, known, nil)
		other := slices.Clone(v)
		other[n/2] += "!"
		holdTake(t, a, "another log's", other.growth(n), api.ErrWrong)
		root := v.growth(n)
		root[5] ^= 128
		holdTake(t, a, "another root", root, api.ErrWrong)
		mixed := other.growth(n)
		copy(mixed[5:7], pairOfBytes(v.root()))
		holdTake(t, a, "another tree", mixed, api.ErrWrong)
		holdKnown(t, a, known, nil)
	}
}

func TestMembersOfVersions(t *testing.T) {
	v := version(someEvents(20))
	a := stele.NewAuditor()
	takeAll(t, a, v[:3].commitment(), v[:8].growth(3), v[:13].growth(8))
	for n := 1; n <= 20; n++ {
		other := slices.Clone(v[:n])
		for i := range n {
			other[i] += "!"
			want, wrong := api.ErrUnknown, api.ErrUnknown
			if n == 3 || n == 8 || n == 13 {
				want, wrong = api.OK, api.ErrWrong
			}
			holdTake(t, a, fmt.Sprintf("another log's member %d of %d", i, n), other.member(i), wrong)
			if i+1 < n {
				// The path is another, but for the member itself.
				holdTake(t, a, fmt.Sprintf("another log's member %d of %d", i+1, n), other.member(i+1), wrong)
			}
			holdTake(t, a, fmt.Sprintf("member %d of %d", i, n), v[:n].member(i), want)
			other[i] = v[i]
		}
	}
	var events []api.Entry
	for i := range 13 {
		events = append(events, api.Entry{Index: i, Event: v[i]})
	}
	holdKnown(t, a, a.Versions(), events)
}

// An event is known by its number and its bytes: the number in the message
// must be that of the place where it stands.
func TestAMemberUnderAnotherNumber(t *testing.T) {
	v := version{"same", "same", "same", "same"}
	a := stele.NewAuditor()
	takeAll(t, a, v.commitment())
	for i := range 4 {
		for j := range 4 {
			message := v.member(i)
			message[2] = byte(j)
			want := decodeByWords(message).err
			holdTake(t, a, fmt.Sprintf("the member %d as %d", i, j), message, want)
		}
	}
}

// Each of the errors applies beside those named behind it.
func TestTheErrorNamedFirst(t *testing.T) {
	v := letters("abcdef")
	wrong := v[:3].member(1)
	wrong[len(wrong)-1] ^= 1
	wrongGrowth := v[:5].growth(2)
	wrongGrowth[6] ^= 1
	fresh := stele.NewAuditor()
	holdTake(t, fresh, "no kind, nothing known", lay(4), api.ErrKind)
	holdTake(t, fresh, "an event that is too long, nothing known", lay(3, 0, 0, 0, 1, 1, 51), api.ErrLong)
	holdTake(t, fresh, "n 0, nothing known", lay(1, 0, 0, 0, 0), api.ErrArg)
	holdTake(t, fresh, "more behind, nothing known", append(v.member(0), 0), api.ErrMore)
	holdTake(t, fresh, "a wrong member, nothing known", wrong, api.ErrUnknown)
	holdTake(t, fresh, "wrong growth, nothing known", wrongGrowth, api.ErrUnknown)
	a := stele.NewAuditor()
	takeAll(t, a, v[:3].commitment())
	holdTake(t, a, "a wrong member that is too short", wrong[:len(wrong)-1], api.ErrShort)
	holdTake(t, a, "a wrong member, and more", append(slices.Clone(wrong), 9), api.ErrMore)
	holdTake(t, a, "a second commitment, and more", append(v.commitment(), 9), api.ErrMore)
	holdTake(t, a, "wrong growth from an unknown version", wrongGrowth, api.ErrUnknown)
	holdTake(t, a, "growth from an unknown version of another shape", lay(2, 0, 2, 0, 2, 0, 0, 1), api.ErrShape)
	holdTake(t, a, "a wrong member", wrong, api.ErrWrong)
}

// Each fault of Decode's comes out of Take with its own error.
func TestTakeTellsDecodesErrors(t *testing.T) {
	v := version(someEvents(11))
	p := newPair()
	p.take(t, v.commitment())
	var messages [][]byte
	for i := range 11 {
		messages = append(messages, v.member(i), v.growth(i+1))
	}
	long := make([]byte, 4001)
	copy(long, v.commitment())
	messages = append(messages, long, make([]byte, 4000), nil)
	for _, message := range messages {
		for at := range message {
			p.take(t, message[:at])
			if at > 100 {
				break
			}
		}
		p.take(t, append(slices.Clone(message), 0))
	}
	p.take(t, long)
}

func TestMaxTaken(t *testing.T) {
	v := version(someEvents(9))
	wrong := v[:5].member(1)
	wrong[len(wrong)-1] ^= 1
	a := stele.NewAuditor()
	takeAll(t, a, v[:3].commitment(), v[:5].growth(3))
	for taken := 2; taken < api.MaxTaken; taken++ {
		// What is answered with an error is not counted.
		holdTake(t, a, "a wrong member", wrong, api.ErrWrong)
		holdTake(t, a, "a second commitment", v.commitment(), api.ErrUnknown)
		holdTake(t, a, "no message", nil, api.ErrShort)
		message := v[:5].member(taken % 5)
		if taken%2 == 0 {
			message = v[:5].growth(5)
		}
		holdTake(t, a, fmt.Sprintf("the message %d", taken+1), message, api.OK)
	}
	for range 3 {
		holdTake(t, a, "a member that holds", v[:3].member(2), api.ErrMany)
		holdTake(t, a, "growth that holds", v.growth(5), api.ErrMany)
		holdTake(t, a, "growth to itself", v[:5].growth(5), api.ErrMany)
		holdTake(t, a, "a member of an unknown version", v.member(2), api.ErrMany)
		holdTake(t, a, "growth from an unknown version", v.growth(4), api.ErrMany)
		holdTake(t, a, "a second commitment", v.commitment(), api.ErrMany)
		holdTake(t, a, "a wrong member", wrong, api.ErrMany)
		holdTake(t, a, "nothing", nil, api.ErrShort)
		holdTake(t, a, "no kind", lay(4), api.ErrKind)
		holdTake(t, a, "n 501", lay(1, 1, 245, 0, 0), api.ErrArg)
		holdTake(t, a, "another shape", lay(3, 0, 0, 0, 1, 0, 0, 0), api.ErrShape)
		holdTake(t, a, "more behind", append(v.member(0), 0), api.ErrMore)
		holdTake(t, a, "4001 bytes", make([]byte, 4001), api.ErrLong)
	}
	holdTake(t, stele.NewAuditor(), "another auditor's first", v.commitment(), api.OK)
}

// ofOneSum gives a text that is another than event, begins with start, and
// has the same sum as an event.
func ofOneSum(t *testing.T, event, start string) string {
	t.Helper()
	want := sumByWords([]byte("\x00" + event))
	for k := range 1 << 24 {
		text := start + string([]byte{byte(k), byte(k >> 8), byte(k >> 16)})
		if text != event && sumByWords([]byte("\x00"+text)) == want {
			return text
		}
	}
	t.Fatalf("no text of the sum %d begins with %q", want, start)
	return ""
}

// Two events of one number are known, if both have the digest that the root
// asks for.
func TestEventsOfOneNumber(t *testing.T) {
	for _, event := range []string{"", "a", "zz\x00\xff", "\xff\xfe\xfd"} {
		v := version{"first", event, "last", event}
		texts := []string{event, ofOneSum(t, event, "\x00"), ofOneSum(t, event, event+"m"), ofOneSum(t, event, event+"\xff"),
			ofOneSum(t, event, "\x7f\xff"), ofOneSum(t, event, "\x80"), ofOneSum(t, event, "é")}
		for seed := range 5 {
			p := newPair()
			p.take(t, v.commitment())
			for _, k := range rand.New(rand.NewSource(int64(seed))).Perm(2 * len(texts)) {
				other := slices.Clone(v)
				other[1] = texts[k/2]
				other[3] = texts[k/2]
				if err := p.take(t, other.member(1+k%2*2)); err != api.OK {
					t.Fatalf("P8: the event %q for %q: %d", texts[k/2], event, err)
				}
				p.take(t, other.member(0))
			}
			if got := len(p.auditor.Events()); got != 1+2*len(texts) {
				t.Errorf("P9: %d events are known, want %d", got, 1+2*len(texts))
			}
		}
	}
}

func TestEachEventIsToldOnce(t *testing.T) {
	v := version{"a", "a", "", "a", "b"}
	a := stele.NewAuditor()
	takeAll(t, a, v[:2].commitment(), v[:2].member(1), v[:2].member(1), v[:4].growth(2), v[:4].member(1), v[:4].member(3),
		v.growth(4), v.member(1), v.member(3), v.member(2), v.member(0), v[:2].member(0), v[:4].member(2))
	holdKnown(t, a, []api.Version{{N: 2, Root: v[:2].root()}, {N: 4, Root: v[:4].root()}, {N: 5, Root: v.root()}},
		[]api.Entry{{Index: 0, Event: "a"}, {Index: 1, Event: "a"}, {Index: 2, Event: ""}, {Index: 3, Event: "a"}})
}

// manyLengths are lengths of logs: all small ones, and those beside the powers
// of two and beside the greatest.
func manyLengths() []int {
	var lengths []int
	for n := 1; n <= 36; n++ {
		lengths = append(lengths, n)
	}
	return append(lengths, 63, 64, 65, 100, 127, 128, 129, 255, 256, 257, 300, 383, 384, 385, 499, 500)
}

// told gives the messages of a log in some order in which each growth comes
// from the version known last.
func told(l *stele.Log, order *rand.Rand) [][]byte {
	last := 1 + order.Intn(l.Len())
	known := []int{last}
	first, _ := l.Commitment(last)
	messages := [][]byte{first}
	for len(messages) < api.MaxTaken {
		if order.Intn(6) == 0 {
			next := min(l.Len(), last+order.Intn(1+l.Len()/8))
			message, _ := l.Growth(last, next)
			messages = append(messages, message)
			known, last = append(known, next), next
			continue
		}
		n := known[order.Intn(len(known))]
		message, _ := l.Member(order.Intn(n), n)
		messages = append(messages, message)
	}
	return messages
}

func TestWhatALogTellsIsTaken(t *testing.T) {
	events := someEvents(api.MaxLog)
	l := stele.NewLog()
	for _, length := range manyLengths() {
		for l.Len() < length {
			l.Append(events[l.Len()])
		}
		for seed := range 4 {
			messages := told(l, rand.New(rand.NewSource(int64(seed*1000+length))))
			takeAll(t, stele.NewAuditor(), messages...)
			p := newPair()
			for _, message := range messages[:60] {
				p.take(t, message)
			}
			for _, entry := range p.auditor.Events() {
				if events[entry.Index] != entry.Event {
					t.Errorf("P9: of a log's events %v is known, want %q", entry, events[entry.Index])
				}
			}
		}
	}
}

// Growth from each version to each, and all members, forwards and backwards.
func TestAllMessagesOfALog(t *testing.T) {
	events := version(someEvents(api.MaxLog))
	l := logOf(t, events...)
	for _, n := range manyLengths() {
		commitment, _ := l.Commitment(n)
		proofs, _ := l.Proofs(n)
		for range 2 {
			var a *stele.Auditor
			for i, proof := range proofs {
				if i%(api.MaxTaken-1) == 0 {
					a = stele.NewAuditor()
					takeAll(t, a, commitment)
				}
				takeAll(t, a, proof)
			}
			slices.Reverse(proofs)
		}
		for m := 1; m <= n; m++ {
			a := stele.NewAuditor()
			start, _ := l.Commitment(m)
			growth, _ := l.Growth(m, n)
			root, _ := l.Root(n)
			takeAll(t, a, start, growth)
			if known := a.Versions(); known[len(known)-1] != (api.Version{N: n, Root: root}) {
				t.Fatalf("P9: behind growth from %d to %d known are %v", m, n, known)
			}
		}
	}
}

func TestGrowthStepByStep(t *testing.T) {
	l := logOf(t, someEvents(api.MaxLog)...)
	for start := 1; start < api.MaxLog; start += api.MaxTaken - 1 {
		a := stele.NewAuditor()
		commitment, _ := l.Commitment(start)
		takeAll(t, a, commitment)
		for m := start; m < min(api.MaxLog, start+api.MaxTaken-1); m++ {
			growth, _ := l.Growth(m, m+1)
			takeAll(t, a, growth)
		}
		for i, known := range a.Versions() {
			if root, _ := l.Root(start + i); known != (api.Version{N: start + i, Root: root}) {
				t.Fatalf("P9: the version %d of those known is %v, want the root %d", i, known, root)
			}
		}
	}
}

// What is taken of messages that were changed, and of two logs at once, is
// what the document's words take.
func TestTakeOfChangedMessages(t *testing.T) {
	for seed := range 300 {
		dice := rand.New(rand.NewSource(int64(seed)))
		count := 1 + dice.Intn(20)
		one := version(someEvents(count))
		other := slices.Clone(one)
		other[dice.Intn(count)] = "another"
		p := newPair()
		for range 120 {
			p.take(t, someMessage(dice, p.words, one, other))
		}
	}
}

// someMessage gives a message of one of two logs, mostly about versions that
// are known, and at times with a byte changed.
func someMessage(dice *rand.Rand, known *auditorByWords, logs ...version) []byte {
	v := logs[dice.Intn(8)/7]
	last := 1 + dice.Intn(len(v))
	n := last
	if k := len(known.versions); k > 0 && dice.Intn(8) > 0 {
		n, last = min(len(v), known.versions[dice.Intn(k)].N), min(len(v), known.versions[k-1].N)
	}
	var message []byte
	switch dice.Intn(8) {
	case 0:
		message = v[:n].commitment()
	case 1, 2:
		message = v[:last+dice.Intn(len(v)-last+1)].growth(last)
	default:
		message = v[:n].member(dice.Intn(n))
	}
	switch dice.Intn(4) {
	case 0:
		message[dice.Intn(len(message))] ^= 1 << dice.Intn(8)
	case 1:
		// The weak sum lets some changes of two bytes pass.
		at := dice.Intn(len(message) - 1)
		message[at]++
		message[at+1]--
	}
	return message
}

// Trees of any digests, with the roots that fit them or others.
func TestTakeOfTreesThatNoLogMade(t *testing.T) {
	for seed := range 2000 {
		dice := rand.New(rand.NewSource(int64(seed)))
		n := 1 + dice.Intn(40)
		m := 1 + dice.Intn(n)
		v := version(someEvents(n))
		value := decodeByWords(v.growth(m)).value
		for i := range value.Tree {
			if value.Tree[i].Kind == api.Stub {
				value.Tree[i].Digest = dice.Intn(65536)
			}
		}
		grown := prunedTreeOf(value)
		value.Root = grown.as(n)
		message, ok := encodeByWords(value)
		if !ok {
			t.Fatalf("no message: %v", value)
		}
		p := newPair()
		p.take(t, lay(1, pairOfBytes(m), pairOfBytes(grown.as(m))))
		if err := p.take(t, message); err != api.OK {
			t.Errorf("P8: growth that fits both roots: %d", err)
		}
		q := newPair()
		q.take(t, lay(1, pairOfBytes(m), pairOfBytes(grown.as(m)+1)))
		if err := q.take(t, message); err != api.ErrWrong {
			t.Errorf("P8: growth that does not fit the root of m: %d", err)
		}
	}
}
