package stele_test

import (
	"slices"
	"testing"

	"stele/api"
	"stele/stele"
)

// What the document says of reading a message, word by word.

// decoded is all that Decode answers.
type decoded struct {
	value api.Message
	err   api.Errno
	place int
}

func (d decoded) equals(other decoded) bool {
	return sameMessage(d.value, other.value) && d.err == other.err && d.place == other.place
}

func sameMessage(a, b api.Message) bool {
	return a.Kind == b.Kind && a.M == b.M && a.N == b.N && a.Root == b.Root && slices.Equal(a.Tree, b.Tree)
}

func refused(err api.Errno, place int) decoded { return decoded{err: err, place: place} }

func decode(message []byte) decoded {
	value, err, place := stele.Decode(message)
	return decoded{value, err, place}
}

// reading is a message that is being read; it panics with what Decode answers
// where the message is none.
type reading struct {
	message []byte
	at      int
	value   api.Message
	starts  []int // of the nodes
}

func (r *reading) one() int {
	if r.at == len(r.message) {
		panic(refused(api.ErrShort, len(r.message)))
	}
	r.at++
	return int(r.message[r.at-1])
}

func (r *reading) pair() int {
	high := r.one()
	return high*256 + r.one()
}

func (r *reading) refuseIf(bad bool, err api.Errno, place int) {
	if bad {
		panic(refused(err, place))
	}
}

func (r *reading) head() {
	m := &r.value
	r.refuseIf(len(r.message) > 4000, api.ErrLong, 0)
	m.Kind = r.one()
	r.refuseIf(m.Kind < 1 || m.Kind > 3, api.ErrKind, 0)
	placeOfN := 1
	if m.Kind != 1 {
		m.M = r.pair()
		placeOfN = 3
	}
	m.N = r.pair()
	if m.Kind != 3 {
		m.Root = r.pair()
	}
	r.refuseIf(m.N < 1 || m.N > 500, api.ErrArg, placeOfN)
	r.refuseIf(m.Kind == 2 && (m.M < 1 || m.M > m.N), api.ErrArg, 1)
	r.refuseIf(m.Kind == 3 && m.M >= m.N, api.ErrArg, 1)
}

func (r *reading) node(p, d int, out func(p, d int) bool) {
	start, two := r.at, d > 0 && p+1<<(d-1) < r.value.N
	want := 3
	switch {
	case out(p, d):
		want = 0
	case d == 0:
		want = 1
	case two:
		want = 2
	}
	r.starts = append(r.starts, start)
	r.refuseIf(r.one() != want, api.ErrShape, start)
	n := api.Node{Kind: want}
	switch want {
	case 0:
		n.Digest = r.pair()
	case 1:
		length := r.one()
		r.refuseIf(length > 50, api.ErrLong, start)
		for range length {
			n.Event += string([]byte{byte(r.one())})
		}
	}
	r.value.Tree = append(r.value.Tree, n)
	if want >= 2 {
		r.node(p, d-1, out)
	}
	if want == 2 {
		r.node(p+1<<(d-1), d-1, out)
	}
}

func (r *reading) whole() (told decoded) {
	defer func() {
		if stop, ok := recover().(decoded); ok {
			told = stop
		}
	}()
	r.head()
	switch m := r.value; m.Kind {
	case 2:
		r.node(0, depthByWords(m.N), growthOut(m.M, m.N))
	case 3:
		r.node(0, depthByWords(m.N), memberOut(m.M, m.N))
	}
	r.refuseIf(r.at < len(r.message), api.ErrMore, r.at)
	return decoded{value: r.value}
}

func decodeByWords(message []byte) decoded {
	r := &reading{message: message}
	return r.whole()
}

// nodePlaces gives the place of each node of a message.
func nodePlaces(message []byte) []int {
	r := &reading{message: message}
	r.whole()
	return r.starts
}

// encodeByWords gives the bytes of which decodeByWords tells m, if there are
// any: they can be no others than the fields of m, one behind the other.
func encodeByWords(m api.Message) ([]byte, bool) {
	var message []byte
	add := func(numbers ...int) {
		for _, number := range numbers {
			message = append(message, byte(number))
		}
	}
	add(m.Kind)
	if m.Kind != 1 {
		add(m.M>>8, m.M)
	}
	add(m.N>>8, m.N)
	if m.Kind != 3 {
		add(m.Root>>8, m.Root)
	}
	for _, n := range m.Tree {
		add(n.Kind)
		if n.Kind == 0 {
			add(n.Digest>>8, n.Digest)
		}
		if n.Kind == 1 {
			add(len(n.Event))
			message = append(message, n.Event...)
		}
	}
	told := decodeByWords(message)
	return message, told.err == api.OK && sameMessage(told.value, m)
}

// someMessages gives messages of all kinds that logs of many lengths tell.
func someMessages(t *testing.T) [][]byte {
	t.Helper()
	l := logOf(t, someEvents(api.MaxLog)...)
	var messages [][]byte
	keep := func(message []byte, err api.Errno) {
		if err != api.OK {
			t.Fatalf("a log's message: %d", err)
		}
		messages = append(messages, message)
	}
	for _, n := range []int{1, 2, 3, 4, 5, 6, 7, 8, 9, 11, 16, 17, 100, 255, 256, 257, 499, 500} {
		keep(l.Commitment(n))
		for i := 0; i < n; i += 1 + n/12 {
			keep(l.Member(i, n))
			keep(l.Growth(i+1, n))
		}
		keep(l.Member(n-1, n))
		keep(l.Growth(n, n))
	}
	return messages
}
