// Package compute tells what a block computes, in terms, and the marks of what it lets out.
package compute

import (
	"twin/api"
	"twin/codec"
	"twin/term"
	"twin/word"
)

// state is what there is between two operations of a block, as terms.
type state struct {
	regs   int         // the place of slot 0
	data   int         // how many cells there are
	places []term.Term // the registers, then the slots
	cells  term.Term
	marks  []string
	big    bool
}

// Term tells what stands in a place at a block's end (P10).
func Term(s string, block int, place int) (string, api.Errno) {
	p, errno := codec.DecodeProgram(s)
	if errno != api.OK {
		return "", errno
	}
	if !hasBlock(p, block) || place < 0 || place > p.Regs+p.Slots {
		return "", api.ErrArg
	}
	done := computed(p, block)
	if done.big {
		return "", api.ErrBig
	}
	if place == p.Regs+p.Slots {
		return done.cells.Text(), api.OK
	}
	return done.places[place].Text(), api.OK
}

// Marks tells the marks of a block (P11).
func Marks(s string, block int) ([]string, api.Errno) {
	p, errno := codec.DecodeProgram(s)
	if errno != api.OK {
		return nil, errno
	}
	if !hasBlock(p, block) {
		return nil, api.ErrArg
	}
	done := computed(p, block)
	if done.big {
		return nil, api.ErrBig
	}
	return done.marks, api.OK
}

func hasBlock(p api.Prog, block int) bool {
	return block >= 0 && block < len(p.Blocks)
}

// computed does the operations of a block, up to the first that gives a term that is too big.
func computed(p api.Prog, block int) state {
	st := begin(p)
	ops := p.Blocks[block].Ops
	for i := 0; i < len(ops) && !st.big; i++ {
		st.do(ops[i])
	}
	return st
}

func begin(p api.Prog) state {
	var places []term.Term
	for i := 0; i < p.Regs; i++ {
		places = append(places, term.OfRegister(i))
	}
	for i := p.Regs; i < p.Regs+p.Slots; i++ {
		places = append(places, term.OfPlace(i))
	}
	return state{regs: p.Regs, data: p.Data, places: places, cells: term.OfCells()}
}

func (st *state) do(o api.Op) {
	switch o.Kind {
	case api.Const:
		st.places[o.A] = term.OfNumber(word.OfConst(o.B, o.C))
	case api.Move:
		st.places[o.A] = st.places[o.B]
	case api.Load:
		st.load(o)
	case api.Store:
		st.store(o)
	case api.Put:
		st.places[st.regs+o.A] = st.places[o.B]
	case api.Get:
		st.places[o.A] = st.places[st.regs+o.B]
	default:
		st.compute(o)
	}
}

// compute does an operation from Add to Div.
func (st *state) compute(o api.Op) {
	u := st.places[o.B]
	v := st.places[o.C]
	if o.Kind == api.Div {
		st.markDiv(u, v)
	}
	made := term.Made(o.Kind, u, v)
	st.places[o.A] = made
	st.big = isBig(made)
}

func (st *state) load(o api.Op) {
	u := st.places[o.B]
	st.markCell(u)
	read := term.Read(st.cells, u)
	st.places[o.A] = read
	st.big = isBig(read)
}

func (st *state) store(o api.Op) {
	u := st.places[o.A]
	st.markCell(u)
	st.cells = term.Written(st.cells, u, st.places[o.B])
	st.big = isBig(st.cells)
}

func isBig(t term.Term) bool {
	return t.Size() > api.MaxSize
}

// markCell marks a Load or Store at u. What is at a cell's number for certain needs no mark: it neither traps nor
// lets out anything that is not known.
func (st *state) markCell(u term.Term) {
	n, isNumber := u.Number()
	if isNumber && n >= 0 && n < st.data {
		return
	}
	st.mark("@ " + u.Text())
}

// markDiv marks a Div of u by v. What divides numbers that are known, and not by 0, needs no mark.
func (st *state) markDiv(u term.Term, v term.Term) {
	_, left := u.Number()
	k, right := v.Number()
	if left && right && k != 0 {
		return
	}
	st.mark("/ " + u.Text() + " " + v.Text())
}

// mark lays a mark behind the others, unless it stands there already.
func (st *state) mark(text string) {
	for i := 0; i < len(st.marks); i++ {
		if st.marks[i] == text {
			return
		}
	}
	st.marks = append(st.marks, text)
}
