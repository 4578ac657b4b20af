// Package compute tells what a block computes, in terms, and the marks of what it lets out.
package compute

import (
	"twin/api"
	"twin/codec"
	"twin/term"
	"twin/word"
)

// State is what there is between two operations of a block, as terms. If it is Big, the operations were not done to
// their end, and nothing else in it counts.
type State struct {
	Places []term.Term // the registers, then the slots
	Cells  term.Term
	Marks  []string
	Big    bool
	regs   int // the place of slot 0
	data   int // how many cells there are
}

// Term tells what stands in a place at a block's end (P10).
func Term(s string, block int, place int) (string, api.Errno) {
	p, errno := codec.DecodeProgram(s)
	if errno != api.OK {
		return "", errno
	}
	if !hasBlock(p, block) || place < 0 || place > p.Regs+p.Slots {
		return "", api.ErrArg
	}
	done := Block(p, block)
	if done.Big {
		return "", api.ErrBig
	}
	if place == p.Regs+p.Slots {
		return done.Cells.Text(), api.OK
	}
	return done.Places[place].Text(), api.OK
}

// Marks tells the marks of a block (P11).
func Marks(s string, block int) ([]string, api.Errno) {
	p, errno := codec.DecodeProgram(s)
	if errno != api.OK {
		return nil, errno
	}
	if !hasBlock(p, block) {
		return nil, api.ErrArg
	}
	done := Block(p, block)
	if done.Big {
		return nil, api.ErrBig
	}
	return done.Marks, api.OK
}

func hasBlock(p api.Prog, block int) bool {
	return block >= 0 && block < len(p.Blocks)
}

// Block tells what a block computes (P10). The program is well made and has this block.
func Block(p api.Prog, block int) State {
	st := begin(p)
	for i := 0; i < p.Regs; i++ {
		st.Places[i] = term.OfRegister(i)
	}
	st.doAll(p.Blocks[block].Ops)
	return st
}

// Paired tells what a block computes where alone the pairs tell what it begins with (P12): a place with a pair holds
// the register that it is paired with. The program is well made and has this block, and every place of the pairs.
func Paired(p api.Prog, block int, pairs []api.Pair) State {
	st := begin(p)
	for i := 0; i < len(pairs); i++ {
		st.Places[pairs[i].Place] = term.OfRegister(pairs[i].Reg)
	}
	st.doAll(p.Blocks[block].Ops)
	return st
}

// begin tells what there is at a block's begin, if nothing is known of any place.
func begin(p api.Prog) State {
	var places []term.Term
	for i := 0; i < p.Regs+p.Slots; i++ {
		places = append(places, term.OfPlace(i))
	}
	return State{Places: places, Cells: term.OfCells(), regs: p.Regs, data: p.Data}
}

// doAll does operations up to the first that gives a term that is too big.
func (st *State) doAll(ops []api.Op) {
	for i := 0; i < len(ops) && !st.Big; i++ {
		st.do(ops[i])
	}
}

func (st *State) do(o api.Op) {
	switch o.Kind {
	case api.Const:
		st.Places[o.A] = term.OfNumber(word.OfConst(o.B, o.C))
	case api.Move:
		st.Places[o.A] = st.Places[o.B]
	case api.Load:
		st.load(o)
	case api.Store:
		st.store(o)
	case api.Put:
		st.Places[st.regs+o.A] = st.Places[o.B]
	case api.Get:
		st.Places[o.A] = st.Places[st.regs+o.B]
	default:
		st.compute(o)
	}
}

// compute does an operation from Add to Div.
func (st *State) compute(o api.Op) {
	u := st.Places[o.B]
	v := st.Places[o.C]
	if o.Kind == api.Div {
		st.markDiv(u, v)
	}
	made := term.Made(o.Kind, u, v)
	st.Places[o.A] = made
	st.Big = isBig(made)
}

func (st *State) load(o api.Op) {
	u := st.Places[o.B]
	st.markCell(u)
	read := term.Read(st.Cells, u)
	st.Places[o.A] = read
	st.Big = isBig(read)
}

func (st *State) store(o api.Op) {
	u := st.Places[o.A]
	st.markCell(u)
	st.Cells = term.Written(st.Cells, u, st.Places[o.B])
	st.Big = isBig(st.Cells)
}

func isBig(t term.Term) bool {
	return t.Size() > api.MaxSize
}

// markCell marks a Load or Store at u. What is at a cell's number for certain needs no mark: it neither traps nor
// lets out anything that is not known.
func (st *State) markCell(u term.Term) {
	n, isNumber := u.Number()
	if isNumber && n >= 0 && n < st.data {
		return
	}
	st.mark("@ " + u.Text())
}

// markDiv marks a Div of u by v. What divides numbers that are known, and not by 0, needs no mark.
func (st *State) markDiv(u term.Term, v term.Term) {
	_, left := u.Number()
	k, right := v.Number()
	if left && right && k != 0 {
		return
	}
	st.mark("/ " + u.Text() + " " + v.Text())
}

// mark lays a mark behind the others, unless it stands there already.
func (st *State) mark(text string) {
	for i := 0; i < len(st.Marks); i++ {
		if st.Marks[i] == text {
			return
		}
	}
	st.Marks = append(st.Marks, text)
}
