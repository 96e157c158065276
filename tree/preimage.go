package tree

import (
	"slices"

	"stele/wire"
)

// The first bytes of preimages; they are not the kinds of nodes in a message.
const (
	leafMark  = 0
	twoMark   = 1
	aloneMark = 2
)

// The parts of a preimage stand here alone: so what a digest is the sum of,
// and what is shown as its preimage, are the same bytes.

func leafParts(event string) [][]byte {
	return [][]byte{{leafMark}, []byte(event)}
}

func twoParts(left Node, right Node) [][]byte {
	return [][]byte{{twoMark}, wire.Two(left.Digest()), wire.Two(right.Digest())}
}

func aloneParts(only Node) [][]byte {
	return [][]byte{{aloneMark}, wire.Two(only.Digest())}
}

func (l leaf) Preimages() [][]byte {
	return [][]byte{wire.Join(leafParts(l.event)...)}
}

func (t two) Preimages() [][]byte {
	own := wire.Join(twoParts(t.left, t.right)...)
	return slices.Concat([][]byte{own}, t.left.Preimages(), t.right.Preimages())
}

func (a alone) Preimages() [][]byte {
	own := wire.Join(aloneParts(a.only)...)
	return slices.Concat([][]byte{own}, a.only.Preimages())
}

func (s stub) Preimages() [][]byte { return nil }
