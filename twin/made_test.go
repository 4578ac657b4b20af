package twin_test

import (
	"math/rand"
	"slices"

	"twin/api"
)

// twins: a source, a target that was made out of it, and the hint that goes with the two.
type twins struct {
	source, target api.Prog
	hint           api.Hint
}

// texts: the three texts, whatever stands in the fields.
func (c twins) texts() (string, string, string) {
	return flat(c.source), flat(c.target), text(hintFields(c.hint)...)
}

// copied: the same with lists of its own.
func (c twins) copied() twins {
	for _, p := range []*api.Prog{&c.source, &c.target} {
		p.Blocks = slices.Clone(p.Blocks)
		for i := range p.Blocks {
			p.Blocks[i].Ops = slices.Clone(p.Blocks[i].Ops)
		}
	}
	c.hint.Blocks = slices.Clone(c.hint.Blocks)
	for i := range c.hint.Blocks {
		c.hint.Blocks[i].Pairs = slices.Clone(c.hint.Blocks[i].Pairs)
	}
	return c
}

// anySource: a program without slots, of at most 7 operations in a block, some of which are done twice.
func anySource(r *rand.Rand) api.Prog {
	p := api.Prog{Regs: 1 + r.Intn(6), Data: r.Intn(6), Blocks: halts(1 + r.Intn(4))}
	p.Args = r.Intn(p.Regs + 1)
	for i := range p.Blocks {
		ops := anyBlock(r, p)
		ops = ops[:min(len(ops), r.Intn(8))]
		for k := range ops {
			if k > 0 && r.Intn(4) == 0 {
				a := ops[k].A
				ops[k] = ops[r.Intn(k)]
				if slices.Contains(written1(ops[k]), ops[k].A) {
					ops[k].A = a % p.Regs
				}
			}
		}
		p.Blocks[i].Ops = ops
		p.Blocks[i].End = anyEnd(r, p)
	}
	return p
}

// anyEnd: an end of any kind.
func anyEnd(r *rand.Rand, p api.Prog) api.End {
	e := end(1+r.Intn(3), r.Intn(p.Regs), r.Intn(len(p.Blocks)), r.Intn(len(p.Blocks)))
	switch e.Kind {
	case api.Jump:
		e.R, e.Y = 0, 0
	case api.Halt:
		e.X, e.Y = 0, 0
	}
	return e
}

// read: the registers that an operation reads.
func read(o api.Op) []int {
	switch o.Kind {
	case api.Const, api.Get:
		return nil
	case api.Move, api.Load, api.Put:
		return []int{o.B}
	case api.Store:
		return []int{o.A, o.B}
	}
	return []int{o.B, o.C}
}

// written1: the register that an operation writes, if it writes one.
func written1(o api.Op) []int {
	if o.Kind == api.Store || o.Kind == api.Put {
		return nil
	}
	return []int{o.A}
}

// touches: do two lists of registers have one in common?
func touches(a, b []int) bool {
	return slices.ContainsFunc(a, func(v int) bool { return slices.Contains(b, v) })
}

// The ways of P15 to make a target. Each changes the target and the hint of what it is given; false, if there is
// nothing that it could do.

func asItIs(r *rand.Rand, c twins) (twins, bool) { return c, true }

// renamed: other registers, maybe more of them; arguments stay.
func renamed(r *rand.Rand, c twins) (twins, bool) {
	c = c.copied()
	q := &c.target
	regs := q.Regs + r.Intn(api.MaxRegs+1-q.Regs)
	to := r.Perm(regs - q.Args)
	name := func(i *int) {
		if *i >= q.Args {
			*i = q.Args + to[*i-q.Args]
		}
	}
	for i := range q.Blocks {
		b := &q.Blocks[i]
		for k := range b.Ops {
			o := &b.Ops[k]
			shape := shapes[o.Kind]
			for at, field := range []*int{&o.A, &o.B, &o.C} {
				if shape[at] == 'r' {
					name(field)
				}
			}
		}
		if b.End.Kind != api.Jump {
			name(&b.End.R)
		}
	}
	for i := range c.hint.Blocks {
		pairs := c.hint.Blocks[i].Pairs
		for k := range pairs {
			if pairs[k].Place >= q.Regs {
				pairs[k].Place += regs - q.Regs
			} else {
				name(&pairs[k].Place)
			}
		}
		inOrder(pairs)
	}
	q.Regs = regs
	return c, true
}

// inOrder: pairs by their places.
func inOrder(pairs []api.Pair) {
	slices.SortFunc(pairs, func(a, b api.Pair) int { return a.Place - b.Place })
}

// changedOver: two operations that stand side by side, if they have nothing to do with each other.
func changedOver(r *rand.Rand, c twins) (twins, bool) {
	c = c.copied()
	for _, i := range r.Perm(len(c.target.Blocks)) {
		ops := c.target.Blocks[i].Ops
		for _, k := range r.Perm(len(ops)) {
			if k > 0 && freeOf(ops[k-1], ops[k]) && ops[k-1] != ops[k] {
				ops[k-1], ops[k] = ops[k], ops[k-1]
				return c, true
			}
		}
	}
	return c, false
}

// freeOf: neither writes what the other reads or writes, and not both let something out. (Cells and slots too: of
// two that touch the cells both let something out; of two that touch slots none is changed over here.)
func freeOf(a, b api.Op) bool {
	out := func(o api.Op) bool { return o.Kind == api.Div || o.Kind == api.Load || o.Kind == api.Store }
	if out(a) && out(b) || max(a.Kind, b.Kind) >= api.Put {
		return false
	}
	return !touches(written1(a), read(b)) && !touches(written1(b), read(a)) && !touches(written1(a), written1(b))
}

// inSlots: registers kept in slots whenever a block but the first begins.
func inSlots(r *rand.Rand, c twins) (twins, bool) {
	c = c.copied()
	q := &c.target
	if q.Slots > 0 || len(q.Blocks) < 2 {
		return c, false
	}
	kept := r.Perm(q.Regs)[:1+r.Intn(min(q.Regs, 3))]
	q.Slots = len(kept) + r.Intn(9-len(kept))
	slots := r.Perm(q.Slots)
	for i := range q.Blocks {
		b := &q.Blocks[i]
		var ops []api.Op
		for k, reg := range kept {
			if i > 0 {
				ops = append(ops, op(api.Get, reg, slots[k], 0))
			}
		}
		ops = append(ops, b.Ops...)
		first, other := goesTo(b.End)
		for k, reg := range kept {
			if !other {
				continue
			}
			ops = append(ops, op(api.Put, slots[k], reg, 0))
			if !first && b.End.R != reg && r.Intn(2) == 0 {
				ops = append(ops, op(api.Const, reg, 128, 99)) // the slot alone keeps it
			}
		}
		if len(ops) > api.MaxOps {
			return c, false
		}
		b.Ops = ops
		for k, pair := range c.hint.Blocks[i].Pairs {
			if at := slices.Index(kept, pair.Place); at >= 0 && i > 0 {
				c.hint.Blocks[i].Pairs[k].Place = q.Regs + slots[at]
			}
		}
		inOrder(c.hint.Blocks[i].Pairs)
	}
	return c, true
}

// goesTo: can an end go on with the first block, and with another?
func goesTo(e api.End) (first, other bool) {
	switch e.Kind {
	case api.Jump:
		return e.X == 0, e.X != 0
	case api.Branch:
		return e.X == 0 || e.Y == 0, e.X != 0 || e.Y != 0
	}
	return false, false
}

// withMore: operations 1 to 10 more, into a register that nothing else reads.
func withMore(r *rand.Rand, c twins) (twins, bool) {
	c = c.copied()
	q := &c.target
	var unread []int
	for reg := range q.Regs {
		if !slices.ContainsFunc(q.Blocks, func(b api.Block) bool {
			return b.End.Kind != api.Jump && b.End.R == reg || slices.ContainsFunc(b.Ops, func(o api.Op) bool { return slices.Contains(read(o), reg) })
		}) {
			unread = append(unread, reg)
		}
	}
	if q.Regs < api.MaxRegs && (len(unread) == 0 || r.Intn(2) == 0) {
		unread = []int{q.Regs}
		for i := range c.hint.Blocks {
			for k := range c.hint.Blocks[i].Pairs {
				if c.hint.Blocks[i].Pairs[k].Place >= q.Regs {
					c.hint.Blocks[i].Pairs[k].Place++
				}
			}
		}
		q.Regs++
	}
	if len(unread) == 0 {
		return c, false
	}
	reg := unread[r.Intn(len(unread))]
	for i := range c.hint.Blocks {
		c.hint.Blocks[i].Pairs = slices.DeleteFunc(c.hint.Blocks[i].Pairs, func(p api.Pair) bool { return p.Place == reg })
	}
	done := false
	for k := 1 + r.Intn(4); k > 0; k-- {
		b := &q.Blocks[r.Intn(len(q.Blocks))]
		if len(b.Ops) == api.MaxOps {
			continue
		}
		o := op(1+r.Intn(10), reg, r.Intn(q.Regs), r.Intn(q.Regs))
		if o.Kind == api.Move {
			o.C = 0
		}
		b.Ops = slices.Insert(b.Ops, r.Intn(len(b.Ops)+1), o)
		done = true
	}
	return c, done
}

// withMoves: Move in the place of an operation that was done already.
func withMoves(r *rand.Rand, c twins) (twins, bool) {
	c = c.copied()
	done := false
	for i := range c.target.Blocks {
		ops := c.target.Blocks[i].Ops
		for k := range ops {
			for before := range k {
				if r.Intn(4) > 0 && doneAlready(ops[before], ops[before+1:k], ops[k]) {
					ops[k] = op(api.Move, ops[k].A, ops[before].A, 0)
					done = true
				}
			}
		}
	}
	return c, done
}

// doneAlready: has first done what o does, and nothing since written into what that was done with?
func doneAlready(first api.Op, since []api.Op, o api.Op) bool {
	if !within(o.Kind, api.Add, api.Load) || first.Kind != o.Kind || first.B != o.B || first.C != o.C || slices.Contains(read(first), first.A) {
		return false
	}
	return !slices.ContainsFunc(since, func(s api.Op) bool {
		return touches(written1(s), append(read(first), first.A)) || o.Kind == api.Load && s.Kind == api.Store
	})
}

// ways: all ways of P15.
var ways = []struct {
	name string
	make func(r *rand.Rand, c twins) (twins, bool)
}{{"itself", asItIs}, {"other registers", renamed}, {"changed over", changedOver}, {"in slots", inSlots}, {"more", withMore}, {"Move", withMoves}}

// own: a source as its own target.
func own(p api.Prog) twins {
	c := twins{source: p, target: p}
	for i := range p.Blocks {
		c.hint.Blocks = append(c.hint.Blocks, api.Pairing{Source: i, Pairs: rising(p.Regs)})
	}
	return c.copied()
}

// anyTwins: a source and a target that was made by several ways, one after the other.
func anyTwins(r *rand.Rand) twins {
	c := own(anySource(r))
	for k := r.Intn(5); k > 0; k-- {
		if next, ok := ways[r.Intn(len(ways))].make(r, c); ok {
			c = next
		}
	}
	return c
}

// spoilt: something changed, be it that the two are twins still, or no programs any more.
func spoilt(r *rand.Rand, c twins) twins {
	if r.Intn(4) > 0 {
		return spoiltTarget(r, c)
	}
	c = c.copied()
	p := []*api.Prog{&c.source, &c.target}[r.Intn(2)]
	b := &p.Blocks[r.Intn(len(p.Blocks))]
	switch r.Intn(6) {
	case 0:
		p = &c.source
		*[]*int{&p.Args, &p.Regs, &p.Data, &p.Slots}[r.Intn(4)] += r.Intn(2)
	case 1:
		*[]*int{&b.End.Kind, &b.End.R, &b.End.X, &b.End.Y}[r.Intn(4)] = r.Intn(7)
	case 2:
		b.Ops = append(b.Ops, written(grown(12))...)[:12] // big, if it is let
	case 3:
		b.Ops = []api.Op{}
		for range 12 {
			b.Ops = append(b.Ops, op(api.Mul, 0, 0, 0))
		}
	case 4:
		c.hint.Blocks = c.hint.Blocks[:len(c.hint.Blocks)*r.Intn(2)]
	case 5:
		b.Ops = append(b.Ops, op(1+r.Intn(16), r.Intn(9), r.Intn(9), r.Intn(9)))
	}
	return c
}

// spoiltTarget: a well made target or hint changed a little, so that it is well made still, mostly.
func spoiltTarget(r *rand.Rand, c twins) twins {
	c = c.copied()
	q := &c.target
	b := &q.Blocks[r.Intn(len(q.Blocks))]
	if len(c.hint.Blocks) == 0 {
		return c
	}
	h := &c.hint.Blocks[r.Intn(len(c.hint.Blocks))]
	k := r.Intn(max(1, len(b.Ops)))
	pair := r.Intn(max(1, len(h.Pairs)))
	switch way := r.Intn(9); {
	case way == 0 && len(b.Ops) < api.MaxOps:
		b.Ops = slices.Insert(b.Ops, k, anyOp(r, *q))
	case way == 1 && len(b.Ops) > 0:
		b.Ops = slices.Delete(b.Ops, k, k+1)
	case way == 2 && len(b.Ops) > 0:
		*[]*int{&b.Ops[k].A, &b.Ops[k].B}[r.Intn(2)] = r.Intn(q.Regs)
	case way == 3 && len(b.Ops) > 1 && k > 0:
		b.Ops[k-1], b.Ops[k] = b.Ops[k], b.Ops[k-1]
	case way == 4:
		b.End = anyEnd(r, *q)
	case way == 5:
		h.Source = r.Intn(len(q.Blocks))
	case way == 6 && len(h.Pairs) > 0:
		h.Pairs = slices.Delete(h.Pairs, pair, pair+1)
	case way == 7 && len(h.Pairs) > 0:
		h.Pairs[pair].Reg = r.Intn(c.source.Regs)
	case way == 8 && len(h.Pairs) > 0:
		h.Pairs[pair].Place = r.Intn(q.Regs + q.Slots + 1)
		inOrder(h.Pairs)
	}
	return c
}

// anyOp: an operation of any kind that a program may have.
func anyOp(r *rand.Rand, p api.Prog) api.Op {
	for {
		if l := anyBlock(r, p); len(l) > 0 {
			return l[0]
		}
	}
}
