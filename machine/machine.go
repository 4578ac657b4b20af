// Package machine runs programs.
package machine

import (
	"twin/api"
	"twin/codec"
	"twin/word"
)

// noTrap is the trap of a machine that may go on.
const noTrap = 0

// machine is a run under way. Its lists are its own: cells and leak come out with the outcome.
type machine struct {
	regs  []int
	cells []int
	slots []int
	leak  []int
	trap  int // noTrap, or the kind of outcome that the run ends with
}

// Run runs a program, at most fuel blocks of it (P6, P7).
func Run(s string, in api.Input, fuel int) (api.Outcome, api.Errno) {
	p, errno := codec.DecodeProgram(s)
	if errno != api.OK {
		return api.Outcome{}, errno
	}
	if len(in.Args) != p.Args || len(in.Mem) != p.Data || len(in.Spill) != p.Slots {
		return api.Outcome{}, api.ErrInput
	}
	if fuel < 0 || fuel > api.MaxFuel {
		return api.Outcome{}, api.ErrArg
	}
	m := begin(p, in)
	return m.run(p.Blocks, fuel), api.OK
}

func begin(p api.Prog, in api.Input) machine {
	regs := copied(in.Args)
	for i := p.Args; i < p.Regs; i++ {
		regs = append(regs, 0)
	}
	return machine{regs: regs, cells: copied(in.Mem), slots: copied(in.Spill)}
}

func copied(list []int) []int {
	var own []int
	for i := 0; i < len(list); i++ {
		own = append(own, list[i])
	}
	return own
}

func (m *machine) run(blocks []api.Block, fuel int) api.Outcome {
	next := 0
	for done := 0; done < fuel; done++ {
		b := blocks[next]
		m.doAll(b.Ops)
		if m.trap != noTrap {
			return api.Outcome{Kind: m.trap, Leak: m.leak}
		}
		if b.End.Kind == api.Halt {
			return api.Outcome{Kind: api.Halted, Result: m.regs[b.End.R], Mem: m.cells, Leak: m.leak}
		}
		next = m.after(b.End)
	}
	return api.Outcome{Kind: api.Out, Mem: m.cells, Leak: m.leak}
}

// after tells the block that a Jump or Branch goes on with.
func (m *machine) after(e api.End) int {
	if e.Kind == api.Jump {
		return e.X
	}
	if m.regs[e.R] != 0 {
		m.letOut(1)
		return e.X
	}
	m.letOut(0)
	return e.Y
}

// doAll does operations up to the first that traps.
func (m *machine) doAll(ops []api.Op) {
	for i := 0; i < len(ops) && m.trap == noTrap; i++ {
		m.do(ops[i])
	}
}

func (m *machine) do(o api.Op) {
	switch o.Kind {
	case api.Const:
		m.regs[o.A] = word.OfConst(o.B, o.C)
	case api.Move:
		m.regs[o.A] = m.regs[o.B]
	case api.Load:
		m.load(o)
	case api.Store:
		m.store(o)
	case api.Put:
		m.slots[o.A] = m.regs[o.B]
	case api.Get:
		m.regs[o.A] = m.slots[o.B]
	default:
		m.compute(o)
	}
}

// compute does an operation from Add to Div.
func (m *machine) compute(o api.Op) {
	x := m.regs[o.B]
	y := m.regs[o.C]
	if o.Kind == api.Div {
		m.letOut(x)
		m.letOut(y)
	}
	v, ok := word.Of(o.Kind, x, y)
	if !ok {
		m.trap = api.Divide
		return
	}
	m.regs[o.A] = v
}

func (m *machine) load(o api.Op) {
	n := m.regs[o.B]
	if m.reaches(n) {
		m.regs[o.A] = m.cells[n]
	}
}

func (m *machine) store(o api.Op) {
	n := m.regs[o.A]
	if m.reaches(n) {
		m.cells[n] = m.regs[o.B]
	}
}

// reaches lets a cell's number out and tells whether there is such a cell; if not, the run traps.
func (m *machine) reaches(n int) bool {
	m.letOut(n)
	if n < 0 || n >= len(m.cells) {
		m.trap = api.Bounds
		return false
	}
	return true
}

func (m *machine) letOut(x int) {
	m.leak = append(m.leak, x)
}
