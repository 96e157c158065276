// Package stele: a log that can prove what it says, and one who finds out if it lies: see DOC.md.
package stele

import (
	"stele/api"
	"stele/codec"
	"stele/sum"
)

// Sum gives the sum of some parts (P3).
func Sum(parts ...[]byte) int { return sum.Of(parts...) }

// Decode reads a message (P6).
func Decode(message []byte) (api.Message, api.Errno, int) { return codec.Decode(message) }

// Encode writes a message (P7).
func Encode(m api.Message) ([]byte, api.Errno) { return codec.Encode(m) }
