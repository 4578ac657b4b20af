// Package compare tells whether a target does what its source does and lets out no more, as far as a hint shows it.
package compare

import (
	"twin/api"
	"twin/codec"
)

// couple is a source and a target with the hint's pairings, one for each block of the target. Where it is compared,
// every number in the pairings is one of the source and of the target.
type couple struct {
	source   api.Prog
	target   api.Prog
	pairings []api.Pairing
}

// Validate tells the first reason for which the two are no twins, and the number of the target's block at which it
// was seen; or OK (P12).
func Validate(s string, t string, h string) (api.Errno, int) {
	source, wrongSource := codec.DecodeProgram(s)
	if wrongSource != api.OK || source.Slots != 0 {
		return api.ErrSource, 0
	}
	target, wrongTarget := codec.DecodeProgram(t)
	if wrongTarget != api.OK {
		return api.ErrTarget, 0
	}
	if source.Args != target.Args || source.Data != target.Data {
		return api.ErrShape, 0
	}
	hint, wrongHint := codec.DecodeHint(h)
	c := couple{source: source, target: target, pairings: hint.Blocks}
	if wrongHint != api.OK || !c.isFitting() {
		return api.ErrHint, 0
	}
	if !c.holdsAtStart() {
		return api.ErrStart, 0
	}
	return c.compareBlocks()
}

// isFitting tells whether the pairings are for these two programs.
func (c couple) isFitting() bool {
	if len(c.pairings) != len(c.target.Blocks) {
		return false
	}
	for i := 0; i < len(c.pairings); i++ {
		if !c.isFittingPairing(c.pairings[i]) {
			return false
		}
	}
	return true
}

func (c couple) isFittingPairing(b api.Pairing) bool {
	if b.Source >= len(c.source.Blocks) {
		return false
	}
	for i := 0; i < len(b.Pairs); i++ {
		if b.Pairs[i].Reg >= c.source.Regs || b.Pairs[i].Place >= c.target.Regs+c.target.Slots {
			return false
		}
	}
	return true
}

// holdsAtStart tells whether what block 0's pairing says is so when a run begins.
func (c couple) holdsAtStart() bool {
	first := c.pairings[0]
	if first.Source != 0 {
		return false
	}
	for i := 0; i < len(first.Pairs); i++ {
		if !c.beginSame(first.Pairs[i]) {
			return false
		}
	}
	return true
}

// beginSame tells whether the two of a pair hold the same word when a run begins: the same argument, or 0. A slot
// may hold any word then.
func (c couple) beginSame(p api.Pair) bool {
	if p.Place >= c.target.Regs {
		return false
	}
	bothZero := p.Reg >= c.source.Args && p.Place >= c.source.Args
	return p.Reg == p.Place || bothZero
}

func (c couple) compareBlocks() (api.Errno, int) {
	for b := 0; b < len(c.target.Blocks); b++ {
		reason := c.compareBlock(b)
		if reason != api.OK {
			return reason, b
		}
	}
	return api.OK, 0
}
