// Package stele: a log that can prove what it says, and one who finds out if it lies: see DOC.md.
package stele

import (
	"stele/api"
	"stele/codec"
	"stele/sum"
)

// Auditor takes what holds.
type Auditor struct{}

// Sum gives the sum of some parts (P3).
func Sum(parts ...[]byte) int { return sum.Of(parts...) }

// Decode reads a message (P6).
func Decode(message []byte) (api.Message, api.Errno, int) { return codec.Decode(message) }

// Encode writes a message (P7).
func Encode(m api.Message) ([]byte, api.Errno) { return codec.Encode(m) }

// NewAuditor makes an Auditor (P8).
func NewAuditor() *Auditor { return nil }

// Take takes a message, if it holds (P8).
func (a *Auditor) Take(message []byte) api.Errno { return api.OK }

// Versions tells which versions are known (P9).
func (a *Auditor) Versions() []api.Version { return nil }

// Events tells which events are known (P9).
func (a *Auditor) Events() []api.Entry { return nil }

// Collision shows two texts with one sum (P10).
func (a *Auditor) Collision() ([]byte, []byte, bool) { return nil, nil, false }
