// Package wire: messages as bytes.
package wire

import "stele/api"

// Two gives a number as two bytes, the higher one first.
func Two(number int) []byte {
	return []byte{byte(number >> 8), byte(number)}
}

// Join lays fields one behind the other, in new memory.
func Join(fields ...[]byte) []byte {
	var joined []byte
	for _, field := range fields {
		joined = append(joined, field...)
	}
	return joined
}

// Message gives the bytes of a message. Whether the value is one that a log
// may say is left to the caller.
func Message(m api.Message) []byte {
	fields := head(m)
	for _, n := range m.Tree {
		fields = append(fields, node(n))
	}
	return Join(fields...)
}

// head gives the fields ahead of the tree.
func head(m api.Message) [][]byte {
	kind := []byte{byte(m.Kind)}
	switch m.Kind {
	case api.Commitment:
		return [][]byte{kind, Two(m.N), Two(m.Root)}
	case api.Growth:
		return [][]byte{kind, Two(m.M), Two(m.N), Two(m.Root)}
	default:
		return [][]byte{kind, Two(m.M), Two(m.N)}
	}
}

// node gives the bytes of one node, without those of the nodes below it.
func node(n api.Node) []byte {
	kind := []byte{byte(n.Kind)}
	switch n.Kind {
	case api.Stub:
		return Join(kind, Two(n.Digest))
	case api.Leaf:
		return Join(kind, []byte{byte(len(n.Event))}, []byte(n.Event))
	default:
		return kind
	}
}
