package codec

import (
	"stele/api"
	"stele/tree"
	"stele/wire"
)

// fault is why bytes are no message, and the place where they are none.
type fault struct {
	err   api.Errno
	place int
}

// layout tells where the fields of a kind of message stand. A field that the
// kind has not is at 0, where the kind itself stands.
type layout struct {
	m, n, root, tree int
}

func layoutOf(kind int) (layout, bool) {
	switch kind {
	case api.Commitment:
		return layout{n: 1, root: 3, tree: 5}, true
	case api.Growth:
		return layout{m: 1, n: 3, root: 5, tree: 7}, true
	case api.Member:
		return layout{m: 1, n: 3, tree: 5}, true
	}
	return layout{}, false
}

// Decode gives the value of a message, or the error and the place where the
// bytes are none (P6).
func Decode(message []byte) (api.Message, api.Errno, int) {
	m, wrong := read(message)
	if wrong.err != api.OK {
		return api.Message{}, wrong.err, wrong.place
	}
	return m, api.OK, 0
}

func read(message []byte) (api.Message, fault) {
	if len(message) > api.MaxMessage {
		return api.Message{}, fault{api.ErrLong, 0}
	}
	m, place, wrong := readHead(message)
	if wrong.err != api.OK {
		return api.Message{}, wrong
	}
	r := &reader{message: message, place: place}
	m.Tree, wrong = r.nodes(kindsOf(m))
	if wrong.err == api.OK && r.place < len(message) {
		wrong = fault{api.ErrMore, r.place}
	}
	return m, wrong
}

// readHead reads the fields ahead of the tree, and tells where that begins.
func readHead(message []byte) (api.Message, int, fault) {
	if len(message) == 0 {
		return api.Message{}, 0, fault{api.ErrShort, 0}
	}
	where, known := layoutOf(int(message[0]))
	if !known {
		return api.Message{}, 0, fault{api.ErrKind, 0}
	}
	if len(message) < where.tree {
		return api.Message{}, 0, fault{api.ErrShort, len(message)}
	}
	m := api.Message{
		Kind: int(message[0]),
		M:    numberAt(message, where.m),
		N:    numberAt(message, where.n),
		Root: numberAt(message, where.root),
	}
	return m, where.tree, checkNumbers(m, where)
}

func numberAt(message []byte, place int) int {
	if place == 0 {
		return 0
	}
	return wire.Number(message[place:])
}

func checkNumbers(m api.Message, where layout) fault {
	switch {
	case m.N < 1 || m.N > api.MaxLog:
		return fault{api.ErrArg, where.n}
	case m.Kind == api.Growth && (m.M < 1 || m.M > m.N):
		return fault{api.ErrArg, where.m}
	case m.Kind == api.Member && m.M >= m.N:
		return fault{api.ErrArg, where.m}
	}
	return fault{}
}

// kindsOf gives the kinds of the nodes that a message with this head has.
func kindsOf(m api.Message) []int {
	switch m.Kind {
	case api.Growth:
		return tree.Kinds(m.N, tree.GrowthRule(m.M))
	case api.Member:
		return tree.Kinds(m.N, tree.MemberRule(m.M))
	}
	return nil
}

// reader goes through the bytes of a tree.
type reader struct {
	message []byte
	place   int
}

// nodes reads the nodes of a tree, which must be of these kinds.
func (r *reader) nodes(kinds []int) ([]api.Node, fault) {
	var list []api.Node
	for _, kind := range kinds {
		n, wrong := r.node(kind)
		if wrong.err != api.OK {
			return nil, wrong
		}
		list = append(list, n)
	}
	return list, fault{}
}

func (r *reader) node(kind int) (api.Node, fault) {
	start := r.place
	first, ok := r.take(1)
	if !ok {
		return api.Node{}, r.short()
	}
	if int(first[0]) != kind {
		return api.Node{}, fault{api.ErrShape, start}
	}
	switch kind {
	case api.Stub:
		return r.stub()
	case api.Leaf:
		return r.leaf(start)
	}
	return api.Node{Kind: kind}, fault{}
}

// stub reads what stands behind the first byte of a stub.
func (r *reader) stub() (api.Node, fault) {
	digest, ok := r.take(2)
	if !ok {
		return api.Node{}, r.short()
	}
	return api.Node{Kind: api.Stub, Digest: wire.Number(digest)}, fault{}
}

// leaf reads what stands behind the first byte of a leaf, which is at start.
func (r *reader) leaf(start int) (api.Node, fault) {
	length, ok := r.take(1)
	if !ok {
		return api.Node{}, r.short()
	}
	if length[0] > api.MaxEvent {
		return api.Node{}, fault{api.ErrLong, start}
	}
	event, ok := r.take(int(length[0]))
	if !ok {
		return api.Node{}, r.short()
	}
	return api.Node{Kind: api.Leaf, Event: string(event)}, fault{}
}

// take gives the next bytes, if there are as many.
func (r *reader) take(count int) ([]byte, bool) {
	if len(r.message)-r.place < count {
		return nil, false
	}
	taken := r.message[r.place : r.place+count]
	r.place += count
	return taken, true
}

func (r *reader) short() fault { return fault{api.ErrShort, len(r.message)} }
