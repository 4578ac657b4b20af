// Package codec tells which programs and hints are well made, and turns them into texts and back.
package codec

import "twin/api"

// Sizes of the parts of a program's text.
const (
	programHead = 7 // `TW` and five bytes
	fieldsSize  = 4 // an operation, or an end
)

// EncodeProgram tells a program's text (P4).
func EncodeProgram(p api.Prog) (string, api.Errno) {
	if !wellMadeProgram(p) {
		return "", api.ErrProgram
	}
	s := "TW"
	s += fourBytes(p.Args, p.Regs, p.Data, p.Slots)
	s += oneByte(len(p.Blocks))
	for i := 0; i < len(p.Blocks); i++ {
		s += blockText(p.Blocks[i])
	}
	return s, api.OK
}

// DecodeProgram tells the program of a text (P4).
func DecodeProgram(s string) (api.Prog, api.Errno) {
	if byteAt(s, 0) != 'T' || byteAt(s, 1) != 'W' {
		return api.Prog{}, api.ErrProgram
	}
	p := api.Prog{Args: byteAt(s, 2), Regs: byteAt(s, 3), Data: byteAt(s, 4), Slots: byteAt(s, 5)}
	count := byteAt(s, 6)
	at := programHead
	for i := 0; i < count; i++ {
		b := blockAt(s, at)
		p.Blocks = append(p.Blocks, b)
		at += blockSize(b)
	}
	if at != len(s) || !wellMadeProgram(p) {
		return api.Prog{}, api.ErrProgram
	}
	return p, api.OK
}

func blockText(b api.Block) string {
	s := oneByte(len(b.Ops))
	for i := 0; i < len(b.Ops); i++ {
		o := b.Ops[i]
		s += fourBytes(o.Kind, o.A, o.B, o.C)
	}
	s += fourBytes(b.End.Kind, b.End.R, b.End.X, b.End.Y)
	return s
}

// blockAt reads the block whose text begins at number at. Where the text ends too early, fields are -1.
func blockAt(s string, at int) api.Block {
	var b api.Block
	count := byteAt(s, at)
	next := at + 1
	for i := 0; i < count; i++ {
		o := api.Op{Kind: byteAt(s, next), A: byteAt(s, next+1), B: byteAt(s, next+2), C: byteAt(s, next+3)}
		b.Ops = append(b.Ops, o)
		next += fieldsSize
	}
	b.End = api.End{Kind: byteAt(s, next), R: byteAt(s, next+1), X: byteAt(s, next+2), Y: byteAt(s, next+3)}
	return b
}

func blockSize(b api.Block) int {
	return 1 + fieldsSize*len(b.Ops) + fieldsSize
}

// wellMadeProgram tells whether a program is well made (P3).
func wellMadeProgram(p api.Prog) bool {
	if p.Regs < 1 || p.Regs > api.MaxRegs {
		return false
	}
	if p.Args < 0 || p.Args > p.Regs {
		return false
	}
	if p.Data < 0 || p.Data > api.MaxData {
		return false
	}
	if p.Slots < 0 || p.Slots > api.MaxSlots {
		return false
	}
	if len(p.Blocks) < 1 || len(p.Blocks) > api.MaxBlocks {
		return false
	}
	for i := 0; i < len(p.Blocks); i++ {
		if !wellMadeBlock(p, p.Blocks[i]) {
			return false
		}
	}
	return true
}

func wellMadeBlock(p api.Prog, b api.Block) bool {
	if len(b.Ops) > api.MaxOps {
		return false
	}
	for i := 0; i < len(b.Ops); i++ {
		if !wellMadeOp(p, b.Ops[i]) {
			return false
		}
	}
	return wellMadeEnd(p, b.End)
}

func wellMadeOp(p api.Prog, o api.Op) bool {
	switch o.Kind {
	case api.Const:
		return isBelow(o.A, p.Regs) && isBelow(o.B, 256) && isBelow(o.C, 256)
	case api.Add, api.Sub, api.Mul, api.And, api.Or, api.Xor, api.Less, api.Equal, api.Div:
		return isBelow(o.A, p.Regs) && isBelow(o.B, p.Regs) && isBelow(o.C, p.Regs)
	case api.Move, api.Load, api.Store:
		return isBelow(o.A, p.Regs) && isBelow(o.B, p.Regs) && o.C == 0
	case api.Put:
		return isBelow(o.A, p.Slots) && isBelow(o.B, p.Regs) && o.C == 0
	case api.Get:
		return isBelow(o.A, p.Regs) && isBelow(o.B, p.Slots) && o.C == 0
	}
	return false
}

func wellMadeEnd(p api.Prog, e api.End) bool {
	blocks := len(p.Blocks)
	switch e.Kind {
	case api.Jump:
		return e.R == 0 && isBelow(e.X, blocks) && e.Y == 0
	case api.Branch:
		return isBelow(e.R, p.Regs) && isBelow(e.X, blocks) && isBelow(e.Y, blocks)
	case api.Halt:
		return isBelow(e.R, p.Regs) && e.X == 0 && e.Y == 0
	}
	return false
}
