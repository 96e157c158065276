package stele

import (
	"strings"

	"stele/api"
	"stele/codec"
	"stele/tree"
)

// Log is a log of events.
type Log struct {
	// made is the log itself, if NewLog made it: so a copy of a log, which
	// would share its events, is closed like any other that NewLog did not make.
	made   *Log
	events []string
}

// NewLog makes a Log (P4).
func NewLog() *Log {
	l := &Log{}
	l.made = l
	return l
}

func (l *Log) closed() bool { return l == nil || l.made != l }

// Append lays an event behind the others (P4).
func (l *Log) Append(event string) (int, api.Errno) {
	switch {
	case l.closed():
		return 0, api.ErrClosed
	case len(event) > api.MaxEvent:
		return 0, api.ErrLong
	case len(l.events) >= api.MaxLog:
		return 0, api.ErrMany
	}
	// A piece of a long text would keep all of it.
	l.events = append(l.events, strings.Clone(event))
	return len(l.events) - 1, api.OK
}

// Len tells how many events there are (P4).
func (l *Log) Len() int {
	if l.closed() {
		return 0
	}
	return len(l.events)
}

// Root gives a version's root (P5).
func (l *Log) Root(n int) (int, api.Errno) {
	if err := l.check(n); err != api.OK {
		return 0, err
	}
	return l.version(n).Digest(), api.OK
}

// Commitment gives a version's commitment (P5).
func (l *Log) Commitment(n int) ([]byte, api.Errno) {
	if err := l.check(n); err != api.OK {
		return nil, err
	}
	m := api.Message{Kind: api.Commitment, N: n, Root: l.version(n).Digest()}
	return codec.Write(m), api.OK
}

// Member proves that an event stands in a version (P5).
func (l *Log) Member(i int, n int) ([]byte, api.Errno) {
	if err := l.check(n); err != api.OK {
		return nil, err
	}
	if i < 0 || i >= n {
		return nil, api.ErrArg
	}
	return member(l.version(n), i, n), api.OK
}

// Growth proves that a version begins with another (P5).
func (l *Log) Growth(m int, n int) ([]byte, api.Errno) {
	if err := l.check(n); err != api.OK {
		return nil, err
	}
	if m < 1 || m > n {
		return nil, api.ErrArg
	}
	return growth(l.version(n), m, n), api.OK
}

// Proofs gives the proofs for all events of a version (P5).
func (l *Log) Proofs(n int) ([][]byte, api.Errno) {
	if err := l.check(n); err != api.OK {
		return nil, err
	}
	return proofs(l.version(n), n), api.OK
}

// check tells what is wrong with asking for version n.
func (l *Log) check(n int) api.Errno {
	switch {
	case l.closed():
		return api.ErrClosed
	case n < 1 || n > len(l.events):
		return api.ErrArg
	}
	return api.OK
}

// version gives the tree of a version that check lets pass.
func (l *Log) version(n int) tree.Node { return tree.Build(l.events[:n]) }

func member(version tree.Node, i int, n int) []byte {
	pruned := version.Prune(tree.MemberRule(i))
	return codec.Write(api.Message{Kind: api.Member, M: i, N: n, Tree: pruned})
}

func growth(version tree.Node, m int, n int) []byte {
	pruned := version.Prune(tree.GrowthRule(m))
	return codec.Write(api.Message{Kind: api.Growth, M: m, N: n, Root: version.Digest(), Tree: pruned})
}

// proofs makes all member proofs at the same time, and gathers them in order.
func proofs(version tree.Node, n int) [][]byte {
	channels := make([]<-chan []byte, n)
	for i := range channels {
		channels[i] = startMember(version, i, n)
	}
	gathered := make([][]byte, 0, n)
	for _, channel := range channels {
		for proof := range channel {
			gathered = append(gathered, proof)
		}
	}
	return gathered
}

// startMember starts a goroutine that makes one member proof, sends it and
// closes the channel. There is room for the proof, so that it need not wait
// for those ahead of it to be gathered.
func startMember(version tree.Node, i int, n int) <-chan []byte {
	channel := make(chan []byte, 1)
	go func() {
		channel <- member(version, i, n)
		close(channel)
	}()
	return channel
}
