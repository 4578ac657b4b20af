package twin_test

import (
	"fmt"
	"math/rand"
	"slices"
	"testing"

	"twin/api"
	"twin/twin"
)

// ran: the outcome of a run that must be one.
func ran(t *testing.T, s string, in api.Input, fuel int) api.Outcome {
	t.Helper()
	o, e := twin.Run(s, in, fuel)
	if e != api.OK {
		t.Fatalf("Run(%v, %v, %d) = %d", []byte(s), in, fuel, e)
	}
	return o
}

// sameRun: the same kind, result and cells?
func sameRun(a, b api.Outcome) bool {
	a.Leak, b.Leak = nil, nil
	return sameOutcome(a, b)
}

// spilled: the same input for a program with slots, whatever they hold.
func spilled(r *rand.Rand, in api.Input, slots int) api.Input {
	in.Spill = make([]int, slots)
	for i := range in.Spill {
		in.Spill[i] = words()[r.Intn(len(words()))]
	}
	return in
}

// near: an input of which some words differ.
func near(r *rand.Rand, in api.Input) api.Input {
	in.Args, in.Mem = slices.Clone(in.Args), slices.Clone(in.Mem)
	for k := 1 + r.Intn(2); k > 0; k-- {
		if at := r.Intn(len(in.Args) + len(in.Mem) + 1); at < len(in.Args) {
			in.Args[at] = r.Intn(9) - 1
		} else if at -= len(in.Args); at < len(in.Mem) {
			in.Mem[at] = r.Intn(9) - 1
		}
	}
	return in
}

// What Validate lets pass does the same and lets out no more: targets made of sources, right ones and spoilt ones,
// with hints that are right or spoilt. A Validate that lets a wrong one pass is seen here by what the two do.
func TestP13AndP14Any(t *testing.T) {
	r := rand.New(rand.NewSource(42))
	passed, refused, kinds, alike := 0, 0, map[int]int{}, 0
	for n := 0; n < 60000; n++ {
		c := anyTwins(r)
		for k := r.Intn(3); k > 0; k-- {
			c = spoiltTarget(r, c)
		}
		s, q, h := c.texts()
		if e, _ := twin.Validate(s, q, h); e != api.OK {
			refused++
			continue
		}
		passed++
		for k := 0; k < 6; k++ {
			fuel := []int{0, 1, 2, 3, 20, 300}[r.Intn(6)]
			in := anyInput(r, c.source)
			other := near(r, in)
			a, b := ran(t, s, in, fuel), ran(t, s, other, fuel)
			x, y := ran(t, q, spilled(r, in, c.target.Slots), fuel), ran(t, q, spilled(r, other, c.target.Slots), fuel)
			if !sameRun(a, x) {
				t.Errorf("P13: %v and %v, by %v, do %+v and %+v with %v, %d", []byte(s), []byte(q), []byte(h), a, x, in, fuel)
			}
			if slices.Equal(a.Leak, b.Leak) && !slices.Equal(x.Leak, y.Leak) {
				t.Errorf("P14: %v and %v, by %v, let out the same %v with %v and %v; but %v and %v", []byte(s), []byte(q), []byte(h), a.Leak, in, other, x.Leak, y.Leak)
			}
			kinds[x.Kind]++
			if slices.Equal(a.Leak, b.Leak) && len(x.Leak) > 0 && fmt.Sprint(in) != fmt.Sprint(other) {
				alike++
			}
		}
	}
	for kind := api.Halted; kind <= api.Out; kind++ {
		if kinds[kind] < 2000 {
			t.Errorf("the test's own twins end with %d only %d times", kind, kinds[kind])
		}
	}
	if passed < 10000 || refused < 10000 || alike < 5000 {
		t.Errorf("%d passed, %d were refused, %d let out the same", passed, refused, alike)
	}
}

// differ: two that are no twins, however a hint puts it: with some input they do something else, or let out more.
// Hints of one form are tried: the target's blocks go with the source's in turn, registers with themselves, but one
// place with any register.
func differ(t *testing.T, promise, source, target string) {
	t.Helper()
	p, q := decoded(t, source), decoded(t, target)
	for turn := range p.Blocks {
		for place := range q.Regs + q.Slots {
			for reg := -1; reg < p.Regs; reg++ {
				var h api.Hint
				for i := range q.Blocks {
					pairs := slices.DeleteFunc(rising(min(p.Regs, q.Regs)), func(pair api.Pair) bool { return pair.Place == place })
					if reg >= 0 {
						pairs = append(pairs, api.Pair{Reg: reg, Place: place})
						inOrder(pairs)
					}
					h.Blocks = append(h.Blocks, api.Pairing{Source: (i + turn) % len(p.Blocks), Pairs: pairs})
				}
				if e, _ := twin.Validate(source, target, text(hintFields(h)...)); e == api.OK {
					t.Errorf("%s: Validate(%v, %v, %v) is OK", promise, []byte(source), []byte(target), h)
				}
			}
		}
	}
}

// Targets that do something else: for one input, for one fuel, with one Spill.
func TestP13Differ(t *testing.T) {
	last := block("", api.Halt, 0, 0, 0)
	halting := func(steps string) string { return blocks(block(steps, api.Halt, 4, 0, 0)) }
	spill := func(steps string) string { return target(block(steps, api.Halt, 4, 0, 0)) }
	differ(t, "P13", halting("r4 = (+ r0 r1)"), spill("r4 = (- r0 r1)"))
	differ(t, "P13", halting("r4 = (/ r0 r1)"), spill("r4 = (/ r1 r0)"))
	differ(t, "P13", halting("r4 = (< r0 r1)"), spill("r4 = (< r1 r0)"))
	differ(t, "P13", halting("r4 = r0"), spill("r4 = r1"))
	differ(t, "P13", halting("r4 = r0"), spill("r4 = r5"))
	differ(t, "P13", halting("r4 = r5"), spill("r4 = r0"))
	differ(t, "P13", halting("r4 = r0"), spill("r4 = s0"))
	differ(t, "P13", halting("r4 = r5"), spill("r4 = s0")) // 0, and what the slot begins with
	differ(t, "P13", blocks(last, block("", api.Halt, 1, 0, 0)), target(block("", api.Halt, 1, 0, 0)))
	differ(t, "P13", blocks(last, block("", api.Halt, 1, 0, 0)), target(block("", api.Halt, 1, 0, 0), last))
	differ(t, "P13", halting("r4 = 0"), spill("r4 = (* s0 s1)"))
	differ(t, "P13", halting("r4 = (@ m 0)"), spill("r4 = (@ m 1)"))
	differ(t, "P13", halting("[0] = r0; r4 = 1"), spill("[0] = s0; r4 = 1"))
	differ(t, "P13", halting("r5 = (/ r0 r1); r4 = 1"), spill("r4 = 1"))                                  // traps less
	differ(t, "P13", halting("r4 = 1"), spill("r5 = (@ m r0); r4 = 1"))                                   // traps more
	differ(t, "P13", halting("r5 = (/ r0 r1); r6 = (@ m r2)"), spill("r6 = (@ m r2); r5 = (/ r0 r1)"))    // another trap first
	differ(t, "P13", halting("r5 = (@ m 4)"), spill("r5 = (/ 1 0)"))                                      // the other trap
	differ(t, "P13", halting("[r0] = 1; [r1] = 2"), spill("r5 = (@ m r0); [r1] = 2; [r0] = 1"))           // if r0 is r1
	differ(t, "P13", halting("[r0] = 1; r4 = (@ m r1)"), spill("r5 = (@ m r0); r4 = (@ m r1); [r0] = 1")) // if r0 is r1
	differ(t, "P13", halting("r4 = (/ (* r0 r1) r1)"), spill("r5 = (/ (* r0 r1) r1); r4 = r0"))           // beyond 2^63
	differ(t, "P13", halting("r4 = (< (+ r0 1) r0)"), spill("r4 = 0"))                                    // beyond 2^63
	differ(t, "P13", blocks(block("", api.Jump, 0, 1, 0), last), target(last, last))                      // with fuel 1
	differ(t, "P13", blocks(last), target(block("", api.Jump, 0, 1, 0), last))                            // with fuel 1
	differ(t, "P13", blocks(block("", api.Jump, 0, 0, 0)), target(last))                                  // has an end
	differ(t, "P13", blocks(block("[0] = r0", api.Jump, 0, 1, 0), block("[1] = r1", api.Halt, 0, 0, 0)),  // with fuel 1
		target(block("[0] = r0; [1] = r1", api.Jump, 0, 1, 0), block("", api.Halt, 0, 0, 0)))
	differ(t, "P13", blocks(block("", api.Branch, 0, 1, 2), last, block("", api.Halt, 1, 0, 0)), target(block("", api.Branch, 0, 2, 1), last, block("", api.Halt, 1, 0, 0)))
	differ(t, "P13", blocks(block("r4 = 5", api.Jump, 0, 1, 0), block("", api.Halt, 4, 0, 0)), target(block("s0 = 5", api.Jump, 0, 1, 0), block("r4 = s1", api.Halt, 4, 0, 0)))
	// registers that are no arguments begin as 0, but only the first time that block 0 begins
	differ(t, "P13", blocks(block("r0 = (- r0 1); r4 = (+ r4 1)", api.Branch, 0, 0, 1), block("", api.Halt, 4, 0, 0)), target(block("r0 = (- r0 1); r4 = (+ r5 1)", api.Branch, 0, 0, 1), block("", api.Halt, 4, 0, 0)))
}

// Targets that do the same for all inputs, but let out more.
func TestP14LetOut(t *testing.T) {
	last := block("", api.Halt, 0, 0, 0)
	for _, c := range []struct{ source, target string }{
		{blocks(last), target(block("r5 = (& r1 3); r5 = (@ m r5)", api.Halt, 0, 0, 0))},
		{blocks(last), target(block("r5 = (| r1 1); r5 = (/ r2 r5)", api.Halt, 0, 0, 0))},
		{blocks(last), target(block("r5 = 1; r5 = (/ r1 r5)", api.Halt, 0, 0, 0))},
		{blocks(last), target(block("r5 = (& r1 3); [r5] = (@ m r5)", api.Halt, 0, 0, 0))},
		{blocks(block("", api.Jump, 0, 1, 0), last), target(block("", api.Branch, 1, 1, 1), last)},
		{blocks(block("", api.Branch, 0, 1, 1), last), target(block("", api.Branch, 1, 1, 1), last)},
		{blocks(block("", api.Jump, 0, 1, 0), last), target(block("", api.Branch, 1, 1, 2), last, last)},
		{blocks(block("r5 = (& r0 3); r5 = (@ m r5)", api.Halt, 0, 0, 0)), target(block("r5 = (& r0 3); r5 = (@ m r5); r6 = (& r1 3); r6 = (@ m r6)", api.Halt, 0, 0, 0))},
		{blocks(last), target(block("r5 = (& s0 3); r5 = (@ m r5)", api.Halt, 0, 0, 0))},
		{blocks(block("", api.Jump, 0, 1, 0), last), target(block("r5 = s0", api.Branch, 5, 1, 1), last)},
	} {
		r := rand.New(rand.NewSource(43))
		more := false
		for n := 0; n < 300; n++ {
			in := anyInput(r, decoded(t, c.source))
			other := near(r, in)
			x, y := ran(t, c.target, spilled(r, in, 2), 9), ran(t, c.target, spilled(r, other, 2), 9)
			if a := ran(t, c.source, in, 9); !sameRun(a, x) {
				t.Errorf("the test's own target does something else: %+v, %+v with %v", a, x, in)
			}
			more = more || slices.Equal(ran(t, c.source, in, 9).Leak, ran(t, c.source, other, 9).Leak) && !slices.Equal(x.Leak, y.Leak)
		}
		if !more {
			t.Errorf("the test's own target %v lets out no more", []byte(c.target))
		}
		differ(t, "P14", c.source, c.target)
	}
}

// bigTwins: is a block of one of the two big?
func bigTwins(c twins) bool {
	for _, p := range []api.Prog{c.source, c.target} {
		for i := range p.Blocks {
			if _, _, big := computes(p, i); big {
				return true
			}
		}
	}
	return false
}

// Every way to make a target is let pass, with the hint that says how it was made.
func TestP15Ways(t *testing.T) {
	r := rand.New(rand.NewSource(44))
	for _, way := range ways {
		done := 0
		for n := 0; n < 60000 && done < 3000; n++ {
			c, ok := way.make(r, own(anySource(r)))
			if !ok || bigTwins(c) {
				continue
			}
			done++
			s, q, h := c.texts()
			if e, b := twin.Validate(s, q, h); e != api.OK || b != 0 {
				t.Errorf("P15: %s: Validate(%v, %v, %v) = %d, %d", way.name, []byte(s), []byte(q), []byte(h), e, b)
			}
		}
		if done < 1000 {
			t.Errorf("%s was done %d times alone", way.name, done)
		}
	}
}

// The ways one after the other.
func TestP15Together(t *testing.T) {
	r := rand.New(rand.NewSource(45))
	for n := 0; n < 20000; n++ {
		c := anyTwins(r)
		s, q, h := c.texts()
		if e, b := twin.Validate(s, q, h); !bigTwins(c) && (e != api.OK || b != 0) {
			t.Errorf("P15: Validate(%v, %v, %v) = %d, %d", []byte(s), []byte(q), []byte(h), e, b)
		}
	}
}

// Each way once, written out.
func TestP15Examples(t *testing.T) {
	s := blocks(
		block("r3 = (+ r0 r1); r4 = (@ m r2); r5 = (+ r0 r1); r6 = (/ r5 r4)", api.Branch, 6, 1, 2),
		block("r6 = (- r6 r0)", api.Branch, 6, 1, 2),
		block("[r2] = r3", api.Halt, 5, 0, 0))
	answers(t, s, s, itself(3, 8), api.OK, 0)
	answers(t, s, target( // other registers: 3 is 4, 4 is 5, 5 is 6, 6 is 3
		block("r4 = (+ r0 r1); r5 = (@ m r2); r6 = (+ r0 r1); r3 = (/ r6 r5)", api.Branch, 3, 1, 2),
		block("r3 = (- r3 r0)", api.Branch, 3, 1, 2),
		block("[r2] = r4", api.Halt, 6, 0, 0)),
		hinted("0 0:0 1:1 2:2 6:3 3:4 4:5 5:6", "1 0:0 1:1 2:2 6:3 3:4 4:5 5:6", "2 0:0 1:1 2:2 6:3 3:4 4:5 5:6"), api.OK, 0)
	answers(t, s, target( // changed over
		block("r4 = (@ m r2); r3 = (+ r0 r1); r5 = (+ r0 r1); r6 = (/ r5 r4)", api.Branch, 6, 1, 2),
		block("r6 = (- r6 r0)", api.Branch, 6, 1, 2),
		block("[r2] = r3", api.Halt, 5, 0, 0)),
		itself(3, 8), api.OK, 0)
	answers(t, s, target( // 3 and 5 are kept in slots
		block("r3 = (+ r0 r1); r4 = (@ m r2); r5 = (+ r0 r1); r6 = (/ r5 r4); s0 = r3; s1 = r5", api.Branch, 6, 1, 2),
		block("r3 = s0; r5 = s1; r6 = (- r6 r0); s0 = r3; s1 = r5", api.Branch, 6, 1, 2),
		block("r3 = s0; r5 = s1; [r2] = r3", api.Halt, 5, 0, 0)),
		hinted("0 0:0 1:1 2:2 3:3 5:5", "1 0:0 2:2 6:6 3:8 5:9", "2 2:2 3:8 5:9"), api.OK, 0)
	answers(t, s, target( // more, into register 7
		block("r3 = (+ r0 r1); r7 = (* r7 r3); r4 = (@ m r2); r5 = (+ r0 r1); r6 = (/ r5 r4)", api.Branch, 6, 1, 2),
		block("r7 = 5; r6 = (- r6 r0)", api.Branch, 6, 1, 2),
		block("[r2] = r3; r7 = (< r7 r0)", api.Halt, 5, 0, 0)),
		itself(3, 7), api.OK, 0)
	answers(t, s, target( // Move
		block("r3 = (+ r0 r1); r4 = (@ m r2); r5 = r3; r6 = (/ r5 r4)", api.Branch, 6, 1, 2),
		block("r6 = (- r6 r0)", api.Branch, 6, 1, 2),
		block("[r2] = r3", api.Halt, 5, 0, 0)),
		itself(3, 8), api.OK, 0)
}

// What P15 leaves out is refused where the two are no twins.
func TestP15Not(t *testing.T) {
	against(t, "r3 = (+ r0 r1); r0 = 7; r4 = (+ r0 r1)", "r3 = (+ r0 r1); r0 = 7; r4 = r3", api.ErrEnd) // a register that it reads was written into
	against(t, "r3 = (+ r0 r1); r3 = 7; r4 = (+ r0 r1)", "r3 = (+ r0 r1); r3 = 7; r4 = r3", api.ErrEnd) // the one that it wrote
	against(t, "r0 = (+ r0 r1); r4 = (+ r0 r1)", "r0 = (+ r0 r1); r4 = r0", api.ErrEnd)                 // it writes what it reads
	against(t, "r3 = (@ m r0); [r1] = r2; r4 = (@ m r0)", "r3 = (@ m r0); [r1] = r2; r4 = r3", api.ErrEnd)
	against(t, "r4 = (+ r0 1); r0 = 7", "r0 = 7; r4 = (+ r0 1)", api.ErrEnd)                 // changed over, though one writes what the other reads
	against(t, "r4 = 1; r4 = 2", "r4 = 2; r4 = 1", api.ErrEnd)                               // or writes
	against(t, "r5 = (@ m r0); r6 = (@ m r1)", "r6 = (@ m r1); r5 = (@ m r0)", api.ErrMarks) // both let something out
	against(t, "", "r4 = 7", api.ErrEnd)                                                     // more, into a register that the end reads
	answers(t, blocks(block("", api.Halt, 0, 0, 0)), target(block("r7 = r0", api.Halt, 7, 0, 0)), itself(1, 1), api.OK, 0)
	answers(t, double, text(84, 87, 1, 2, 0, 0, 1, 1, 3, 0, 1, 1, 3, 0, 0, 0), text(84, 72, 1, 0, 1, 0, 1), api.ErrStart, 0) // an argument in another register
}
