// Package codec: messages as bytes, and bytes as messages.
package codec

import (
	"slices"

	"stele/api"
	"stele/wire"
)

// Write gives the bytes of a message. Whether the value is one that a log may
// say is left to the caller.
func Write(m api.Message) []byte {
	fields := head(m)
	for _, n := range m.Tree {
		fields = append(fields, node(n))
	}
	return wire.Join(fields...)
}

// head gives the fields ahead of the tree.
func head(m api.Message) [][]byte {
	kind := []byte{byte(m.Kind)}
	switch m.Kind {
	case api.Commitment:
		return [][]byte{kind, wire.Two(m.N), wire.Two(m.Root)}
	case api.Growth:
		return [][]byte{kind, wire.Two(m.M), wire.Two(m.N), wire.Two(m.Root)}
	default:
		return [][]byte{kind, wire.Two(m.M), wire.Two(m.N)}
	}
}

// node gives the bytes of one node, without those of the nodes below it.
func node(n api.Node) []byte {
	kind := []byte{byte(n.Kind)}
	switch n.Kind {
	case api.Stub:
		return wire.Join(kind, wire.Two(n.Digest))
	case api.Leaf:
		return wire.Join(kind, []byte{byte(len(n.Event))}, []byte(n.Event))
	default:
		return kind
	}
}

// Encode gives the bytes of which Decode tells m (P7). It asks Decode itself:
// so there is one place alone that says what a message is.
func Encode(m api.Message) ([]byte, api.Errno) {
	if tooGreat(m) {
		return nil, api.ErrArg
	}
	written := Write(m)
	told, err, _ := Decode(written)
	if err != api.OK || !same(told, m) {
		return nil, api.ErrArg
	}
	return written, api.OK
}

// tooGreat tells of a value that no message has room for: it is not even
// written, as it may be very much greater than a message.
func tooGreat(m api.Message) bool {
	return len(m.Tree) > api.MaxMessage || slices.ContainsFunc(m.Tree, func(n api.Node) bool {
		return len(n.Event) > api.MaxEvent
	})
}

func same(a api.Message, b api.Message) bool {
	return a.Kind == b.Kind && a.M == b.M && a.N == b.N && a.Root == b.Root && slices.Equal(a.Tree, b.Tree)
}
