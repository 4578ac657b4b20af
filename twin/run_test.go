package twin_test

import (
	"fmt"
	"math"
	"math/big"
	"math/rand"
	"strings"
	"testing"

	"twin/api"
	"twin/twin"
)

// The programs of the document's examples, and two more: with slots, and without an end to its run.
var (
	double  = text(84, 87, 1, 2, 0, 0, 1, 1, 3, 1, 0, 0, 3, 1, 0, 0)
	also    = text(84, 87, 1, 2, 0, 0, 1, 2, 2, 1, 0, 0, 3, 0, 1, 0, 3, 0, 0, 0)
	count   = text(84, 87, 1, 2, 0, 0, 2, 2, 1, 1, 128, 1, 4, 0, 0, 1, 2, 0, 0, 1, 0, 3, 1, 0, 0)
	cell    = text(84, 87, 2, 3, 2, 0, 1, 2, 13, 0, 1, 0, 12, 2, 0, 0, 3, 2, 0, 0)
	over    = text(84, 87, 2, 2, 0, 0, 1, 1, 11, 0, 0, 1, 3, 0, 0, 0)
	swap    = text(84, 87, 1, 2, 1, 2, 1, 3, 15, 1, 1, 0, 14, 1, 0, 0, 15, 0, 0, 0, 3, 1, 0, 0)
	forever = text(84, 87, 0, 1, 0, 0, 1, 0, 1, 0, 0, 0)
)

// words: what is tried as a word.
func words() []int {
	return []int{math.MinInt, math.MinInt + 1, -1 << 62, -1 << 32, -32769, -8, -7, -3, -2, -1, 0, 1, 2, 3, 7, 8, 9, 255, 32768, 1<<32 - 1, 1 << 32, 3037000500, 1 << 62, math.MaxInt - 1, math.MaxInt}
}

// cut: a number of any size taken modulo 2^64 into the range of words.
func cut(n *big.Int) int {
	all := new(big.Int).Lsh(big.NewInt(1), 64)
	n = new(big.Int).Mod(n, all)
	if n.Bit(63) == 1 {
		n.Sub(n, all)
	}
	return int(n.Int64())
}

// bitwise: what a rule for two bits gives bit by bit.
func bitwise(x, y int, rule func(a, b uint) uint) int {
	n := new(big.Int)
	for i := 0; i < 64; i++ {
		n.SetBit(n, i, rule(uint(x)>>i&1, uint(y)>>i&1))
	}
	return cut(n)
}

// given: what an operation from Add to Div gives, by the document's table and in numbers of any size; y is not 0 for a Div.
func given(kind, x, y int) int {
	a, b, n := big.NewInt(int64(x)), big.NewInt(int64(y)), new(big.Int)
	switch kind {
	case 3:
		return cut(n.Add(a, b))
	case 4:
		return cut(n.Sub(a, b))
	case 5:
		return cut(n.Mul(a, b))
	case 6:
		return bitwise(x, y, func(a, b uint) uint { return a * b })
	case 7:
		return bitwise(x, y, func(a, b uint) uint { return max(a, b) })
	case 8:
		return bitwise(x, y, func(a, b uint) uint { return (a + b) % 2 })
	case 9:
		return map[bool]int{true: 1}[a.Cmp(b) < 0]
	case 10:
		return map[bool]int{true: 1}[a.Cmp(b) == 0]
	}
	return cut(n.Quo(a, b))
}

// told: P6 and P7, said once more; the program is well made and the input fits it.
func told(p api.Prog, in api.Input, fuel int) api.Outcome {
	regs, cells, slots := map[int]int{}, map[int]int{}, map[int]int{}
	for to, from := range map[*map[int]int][]int{&regs: in.Args, &cells: in.Mem, &slots: in.Spill} {
		for i, v := range from {
			(*to)[i] = v
		}
	}
	var leak []int
	memory := func() []int {
		l := make([]int, p.Data)
		for i := range l {
			l[i] = cells[i]
		}
		return l
	}
	at := 0
	for ; fuel > 0; fuel-- {
		for _, o := range p.Blocks[at].Ops {
			b, c := regs[o.B], regs[o.C]
			switch o.Kind {
			case 1:
				regs[o.A] = 256*o.B + o.C - 32768
			case 2:
				regs[o.A] = b
			case 12, 13:
				n := b
				if o.Kind == 13 {
					n = regs[o.A]
				}
				leak = append(leak, n)
				if _, ok := cells[n]; !ok {
					return api.Outcome{Kind: 2, Leak: leak}
				}
				if o.Kind == 13 {
					cells[n] = b
				} else {
					regs[o.A] = cells[n]
				}
			case 14:
				slots[o.A] = b
			case 15:
				regs[o.A] = slots[o.B]
			default:
				if o.Kind == 11 {
					leak = append(leak, b, c)
					if c == 0 {
						return api.Outcome{Kind: 3, Leak: leak}
					}
				}
				regs[o.A] = given(o.Kind, b, c)
			}
		}
		e := p.Blocks[at].End
		switch {
		case e.Kind == 3:
			return api.Outcome{Kind: 1, Result: regs[e.R], Mem: memory(), Leak: leak}
		case e.Kind == 1:
			at = e.X
		case regs[e.R] == 0:
			leak, at = append(leak, 0), e.Y
		default:
			leak, at = append(leak, 1), e.X
		}
	}
	return api.Outcome{Kind: 4, Mem: memory(), Leak: leak}
}

// sameOutcome: are the two the same, nil lists and empty ones taken alike?
func sameOutcome(a, b api.Outcome) bool {
	return a.Kind == b.Kind && a.Result == b.Result && fmt.Sprint(a.Mem) == fmt.Sprint(b.Mem) && fmt.Sprint(a.Leak) == fmt.Sprint(b.Leak)
}

// runs: does Run answer this outcome?
func runs(t *testing.T, s string, in api.Input, fuel int, want api.Outcome) {
	t.Helper()
	if o, e := twin.Run(s, in, fuel); e != api.OK || !sameOutcome(o, want) {
		t.Errorf("Run(%v, %v, %d) = %+v, %d, want %+v", []byte(s), in, fuel, o, e, want)
	}
}

// runsNot: does Run answer this error, and nothing else?
func runsNot(t *testing.T, s string, in api.Input, fuel int, want api.Errno) {
	t.Helper()
	if o, e := twin.Run(s, in, fuel); e != want || o.Kind != 0 || o.Result != 0 || len(o.Mem) != 0 || len(o.Leak) != 0 {
		t.Errorf("Run(%.60q, %v, %d) = %+v, %d, want the error %d", s, in, fuel, o, e, want)
	}
}

// input: a run's input of arguments alone.
func input(args ...int) api.Input { return api.Input{Args: args} }

// zeros: an input of zeros that fits the program, but for so many words more or fewer.
func zeros(p api.Prog, args, mem, spill int) api.Input {
	return api.Input{Args: make([]int, p.Args+args), Mem: make([]int, p.Data+mem), Spill: make([]int, p.Slots+spill)}
}

// single: the text of a program of one block that halts with register r.
func single(head api.Prog, r int, ops ...api.Op) string {
	head.Blocks = []api.Block{{Ops: ops, End: end(api.Halt, r, 0, 0)}}
	return flat(head)
}

func TestP6Examples(t *testing.T) {
	two := func(a, b int) api.Input { return api.Input{Args: []int{a, b}, Mem: []int{5, 6}} }
	runs(t, double, input(21), 1, api.Outcome{Kind: api.Halted, Result: 42})
	runs(t, double, input(21), 0, api.Outcome{Kind: api.Out})
	runs(t, double, input(1<<62), 1, api.Outcome{Kind: api.Halted, Result: math.MinInt})
	runs(t, also, input(21), 1, api.Outcome{Kind: api.Halted, Result: 42})
	runs(t, count, input(3), 4, api.Outcome{Kind: api.Halted, Result: 1, Leak: []int{1, 1, 0}})
	runs(t, count, input(3), 3, api.Outcome{Kind: api.Out, Leak: []int{1, 1, 0}})
	runs(t, cell, two(1, 9), 1, api.Outcome{Kind: api.Halted, Result: 9, Mem: []int{5, 9}, Leak: []int{1, 1}})
	runs(t, cell, two(2, 9), 1, api.Outcome{Kind: api.Bounds, Leak: []int{2}})
	runs(t, over, input(-7, 2), 300, api.Outcome{Kind: api.Halted, Result: -3, Leak: []int{-7, 2}})
	runs(t, over, input(7, 0), 300, api.Outcome{Kind: api.Divide, Leak: []int{7, 0}})
	runsNot(t, over, input(7), 301, api.ErrInput)
}

// The first Args registers begin as the arguments, the others as 0; the cells as Mem, the slots as Spill.
func TestP6Begin(t *testing.T) {
	for args := 0; args <= 8; args++ {
		for r := 0; r < 8; r++ {
			in := zeros(api.Prog{Args: args}, 0, 0, 0)
			for i := range in.Args {
				in.Args[i] = 100 + i
			}
			want := 0
			if r < args {
				want = 100 + r
			}
			runs(t, single(api.Prog{Args: args, Regs: 8}, r), in, 1, api.Outcome{Kind: api.Halted, Result: want})
		}
	}
	in := api.Input{Mem: []int{10, 11, 12, 13, 14, 15, 16, 17}, Spill: []int{20, 21, 22, 23, 24, 25, 26, 27}}
	for i := 0; i < 8; i++ {
		head := api.Prog{Regs: 2, Data: 8, Slots: 8}
		runs(t, single(head, 1, op(api.Const, 0, 128, i), op(api.Load, 1, 0, 0)), in, 1, api.Outcome{Kind: api.Halted, Result: 10 + i, Mem: in.Mem, Leak: []int{i}})
		runs(t, single(head, 1, op(api.Get, 1, i, 0)), in, 1, api.Outcome{Kind: api.Halted, Result: 20 + i, Mem: in.Mem})
	}
}

// Lists of each length but the right one are refused, each by itself, and whatever the other two are.
func TestP6Lengths(t *testing.T) {
	for _, p := range []api.Prog{{Regs: 8}, {Args: 8, Regs: 8, Data: 8, Slots: 8}, {Args: 1, Regs: 2, Data: 3, Slots: 4}, {Args: 4, Regs: 4, Data: 2, Slots: 1}} {
		p.Blocks = halts(1)
		for args := 0; args <= 10; args++ {
			for mem := 0; mem <= 10; mem++ {
				for spill := 0; spill <= 10; spill++ {
					in := zeros(api.Prog{}, args, mem, spill)
					if args == p.Args && mem == p.Data && spill == p.Slots {
						runs(t, flat(p), in, 1, api.Outcome{Kind: api.Halted, Mem: in.Mem})
					} else {
						runsNot(t, flat(p), in, 1, api.ErrInput)
					}
				}
			}
		}
	}
	long := make([]int, 1000000)
	runsNot(t, swap, api.Input{Args: long, Mem: long[:1], Spill: long[:2]}, 1, api.ErrInput)
	runsNot(t, swap, api.Input{Args: long[:1], Mem: long, Spill: long[:2]}, 1, api.ErrInput)
	runsNot(t, swap, api.Input{Args: long[:1], Mem: long[:1], Spill: long}, 1, api.ErrInput)
	runsNot(t, swap, api.Input{}, 1, api.ErrInput)
	runs(t, forever, api.Input{}, 1, api.Outcome{Kind: api.Out})
	runs(t, forever, api.Input{Args: []int{}, Mem: []int{}, Spill: []int{}}, 1, api.Outcome{Kind: api.Out})
}

// Spare room behind a list is no part of it.
func TestP6SpareRoom(t *testing.T) {
	room := make([]int, 10)
	runs(t, double, api.Input{Args: room[:1], Mem: room[:0], Spill: room[:0]}, 1, api.Outcome{Kind: api.Halted})
	runsNot(t, over, input(room[:1]...), 1, api.ErrInput)
}

func TestP6Errors(t *testing.T) {
	good, short := zeros(api.Prog{Args: 1, Data: 1, Slots: 2}, 0, 0, 0), api.Input{}
	for _, fuel := range []int{math.MinInt, -300, -256, -1, 301, 302, 511, 512, 556, 65536, 1 << 32, 1<<32 + 1, math.MaxInt} {
		runsNot(t, swap, good, fuel, api.ErrArg)
		runsNot(t, swap, short, fuel, api.ErrInput)
		runsNot(t, swap+"\x00", good, fuel, api.ErrProgram)
		runsNot(t, swap+"\x00", short, fuel, api.ErrProgram)
	}
	for _, fuel := range []int{0, 1, 300} {
		runsNot(t, swap, short, fuel, api.ErrInput)
		runsNot(t, swap[1:], short, fuel, api.ErrProgram)
	}
}

// What Decode refuses, Run refuses, and nothing else.
func TestP6NoTexts(t *testing.T) {
	p := every()
	in, s := zeros(p, 0, 0, 0), flat(p)
	for i := range s {
		runsNot(t, s[:i], in, 1, api.ErrProgram)
		for v := 0; v < 256; v++ {
			changed := s[:i] + text(v) + s[i+1:]
			_, want := twin.Decode(changed)
			_, e := twin.Run(changed, in, 1)
			if (want == api.ErrProgram) != (e == api.ErrProgram) {
				t.Errorf("Run(%v) = %d, Decode = %d", []byte(changed), e, want)
			}
		}
	}
	hint := text(hintFields(some())...)
	for _, no := range []string{"", "TW", "tw" + s[2:], s + s, s + "\n", hint, strings.Repeat("\xff", 100000)} {
		runsNot(t, no, in, 1, api.ErrProgram)
		runsNot(t, no, api.Input{}, 1, api.ErrProgram)
	}
}

// row: a program of n blocks that jump from one to the next, the last of which halts; each adds 1 to register 0.
func row(n int) string {
	p := api.Prog{Regs: 2, Blocks: halts(n)}
	for i := range p.Blocks {
		p.Blocks[i].Ops = []api.Op{op(api.Const, 1, 128, 1), op(api.Add, 0, 0, 1)}
		if i < n-1 {
			p.Blocks[i].End = end(api.Jump, 0, i+1, 0)
		}
	}
	return flat(p)
}

// Fuel just enough, and one too few; a run that is Out has done whole blocks, as many as fuel.
func TestP6Fuel(t *testing.T) {
	for n := 1; n <= 6; n++ {
		for fuel := 0; fuel < n; fuel++ {
			runs(t, row(n), api.Input{}, fuel, api.Outcome{Kind: api.Out})
		}
		for _, fuel := range []int{n, n + 1, 299, 300} {
			runs(t, row(n), api.Input{}, fuel, api.Outcome{Kind: api.Halted, Result: n})
		}
	}
	for n := 1; n <= 301; n++ {
		ones := make([]int, n)
		for i := range ones[:n-1] {
			ones[i] = 1
		}
		if n < 300 {
			runs(t, count, input(n), n+1, api.Outcome{Kind: api.Halted, Result: 1, Leak: ones})
		}
		if n <= 300 {
			runs(t, count, input(n), n, api.Outcome{Kind: api.Out, Leak: ones})
		}
		runs(t, count, input(n), n-1, api.Outcome{Kind: api.Out, Leak: ones[:n-1]})
		runs(t, forever, api.Input{}, n-1, api.Outcome{Kind: api.Out})
	}
}

// steps: a program that stores how often its block has been run into cell 0, then branches back while cell 1 is not 0.
func steps() string {
	return flat(api.Prog{Regs: 5, Data: 2, Blocks: []api.Block{
		{Ops: []api.Op{op(api.Const, 1, 128, 1), op(api.Add, 2, 2, 1), op(api.Store, 0, 2, 0), op(api.Load, 3, 1, 0)}, End: end(api.Branch, 3, 0, 1)},
		{End: end(api.Halt, 2, 0, 0)},
	}})
}

// The cells of a run that is Out are those after the last whole block.
func TestP6OutCells(t *testing.T) {
	for fuel := 0; fuel <= 300; fuel++ {
		var leak []int
		for i := 0; i < fuel; i++ {
			leak = append(leak, 0, 1, 1)
		}
		runs(t, steps(), api.Input{Mem: []int{0, 7}}, fuel, api.Outcome{Kind: api.Out, Mem: []int{fuel, 7}, Leak: leak})
	}
	runs(t, steps(), api.Input{Mem: []int{9, 0}}, 0, api.Outcome{Kind: api.Out, Mem: []int{9, 0}})
	runs(t, steps(), api.Input{Mem: []int{9, 0}}, 1, api.Outcome{Kind: api.Out, Mem: []int{1, 0}, Leak: []int{0, 1, 0}})
	runs(t, steps(), api.Input{Mem: []int{9, 0}}, 2, api.Outcome{Kind: api.Halted, Result: 1, Mem: []int{1, 0}, Leak: []int{0, 1, 0}})
}

// Without fuel nothing is done: what would trap does not.
func TestP6NoFuel(t *testing.T) {
	runs(t, over, input(7, 0), 0, api.Outcome{Kind: api.Out})
	runs(t, cell, api.Input{Args: []int{2, 9}, Mem: []int{5, 6}}, 0, api.Outcome{Kind: api.Out, Mem: []int{5, 6}})
	p := api.Prog{Args: 1, Regs: 2, Data: 1, Blocks: halts(2)}
	p.Blocks[0].End = end(api.Jump, 0, 1, 0)
	p.Blocks[1].Ops = []api.Op{op(api.Store, 0, 0, 0)}
	in := api.Input{Args: []int{1}, Mem: []int{4}}
	runs(t, flat(p), in, 1, api.Outcome{Kind: api.Out, Mem: []int{4}})
	runs(t, flat(p), in, 2, api.Outcome{Kind: api.Bounds, Leak: []int{1}})
}

// Every operation from Add to Div, at every two of the words tried.
func TestP7Words(t *testing.T) {
	for kind := api.Add; kind <= api.Div; kind++ {
		s := single(api.Prog{Args: 2, Regs: 3}, 2, op(kind, 2, 0, 1))
		for _, x := range words() {
			for _, y := range words() {
				want := api.Outcome{Kind: api.Halted}
				if kind == api.Div {
					want.Leak = []int{x, y}
				}
				if kind == api.Div && y == 0 {
					want.Kind = api.Divide
				} else {
					want.Result = given(kind, x, y)
				}
				runs(t, s, input(x, y), 1, want)
			}
		}
	}
}

// Words at the edges, written out.
func TestP7Edges(t *testing.T) {
	for _, c := range []struct{ kind, x, y, want int }{
		{api.Add, math.MaxInt, 1, math.MinInt}, {api.Add, math.MinInt, -1, math.MaxInt}, {api.Add, math.MinInt, math.MinInt, 0}, {api.Add, math.MaxInt, math.MaxInt, -2}, {api.Add, math.MaxInt, math.MinInt, -1},
		{api.Sub, math.MinInt, 1, math.MaxInt}, {api.Sub, math.MaxInt, -1, math.MinInt}, {api.Sub, 0, math.MinInt, math.MinInt}, {api.Sub, -1, math.MinInt, math.MaxInt}, {api.Sub, 5, 7, -2},
		{api.Mul, math.MinInt, -1, math.MinInt}, {api.Mul, math.MaxInt, 2, -2}, {api.Mul, 1 << 32, 1 << 32, 0}, {api.Mul, 1 << 32, 1 << 31, math.MinInt}, {api.Mul, math.MaxInt, math.MaxInt, 1},
		{api.And, -1, math.MinInt, math.MinInt}, {api.Or, math.MinInt, math.MaxInt, -1}, {api.Xor, -1, math.MaxInt, math.MinInt},
		{api.Less, math.MinInt, math.MaxInt, 1}, {api.Less, math.MaxInt, math.MinInt, 0}, {api.Less, math.MaxInt - 1, math.MaxInt, 1}, {api.Less, -1, 0, 1}, {api.Less, 0, -1, 0}, {api.Less, 3, 3, 0},
		{api.Equal, math.MinInt, math.MinInt, 1}, {api.Equal, math.MinInt, math.MaxInt, 0}, {api.Equal, 1 << 32, 0, 0},
	} {
		runs(t, single(api.Prog{Args: 2, Regs: 2}, 0, op(c.kind, 0, 0, 1)), input(c.x, c.y), 1, api.Outcome{Kind: api.Halted, Result: c.want})
	}
	for _, c := range []struct{ x, y, want int }{
		{math.MinInt, -1, math.MinInt}, {math.MinInt, 1, math.MinInt}, {math.MinInt, 2, -1 << 62}, {math.MinInt, math.MinInt, 1}, {math.MaxInt, -1, -math.MaxInt}, {math.MaxInt, math.MinInt, 0}, {math.MinInt, math.MaxInt, -1},
		{7, 2, 3}, {-7, 2, -3}, {7, -2, -3}, {-7, -2, 3}, {1, 2, 0}, {-1, 2, 0}, {0, 5, 0},
	} {
		runs(t, over, input(c.x, c.y), 1, api.Outcome{Kind: api.Halted, Result: c.want, Leak: []int{c.x, c.y}})
	}
}

func TestP7Const(t *testing.T) {
	for b := 0; b < 256; b++ {
		for c := 0; c < 256; c++ {
			runs(t, single(api.Prog{Args: 1, Regs: 1}, 0, op(api.Const, 0, b, c)), input(77), 1, api.Outcome{Kind: api.Halted, Result: b<<8 + c - 1<<15})
		}
	}
}

// Each operation writes its own register (or cell, or slot) and no other, from its own registers and no others.
func TestP7Fields(t *testing.T) {
	for kind := api.Const; kind <= api.Get; kind++ {
		for n := 0; n < 4*4*4; n++ {
			f := shapes[kind]
			o := op(kind, n%4, n/4%4, n/16)
			if f[2] == '0' {
				o.C = 0
			}
			for r := 0; r < 4; r++ {
				p := api.Prog{Args: 4, Regs: 4, Data: 4, Slots: 4, Blocks: []api.Block{{Ops: []api.Op{o}, End: end(api.Halt, r, 0, 0)}}}
				in := api.Input{Args: []int{3, 2, 0, 1}, Mem: []int{31, 32, 33, 34}, Spill: []int{41, 42, 43, 44}}
				runs(t, flat(p), in, 1, told(p, in, 1))
				p.Blocks[0].Ops = append(p.Blocks[0].Ops, op(api.Get, 0, r, 0))
				p.Blocks[0].End.R = 0
				runs(t, flat(p), in, 1, told(p, in, 1))
			}
		}
	}
}

// Slots: Put and Get, written out.
func TestP7Slots(t *testing.T) {
	in := api.Input{Args: []int{4}, Mem: []int{8}, Spill: []int{5, 6}}
	runs(t, swap, in, 1, api.Outcome{Kind: api.Halted, Result: 6, Mem: []int{8}})
	head := api.Prog{Args: 2, Regs: 3, Slots: 3}
	put := op(api.Put, 1, 0, 0)
	for slot, want := range []int{10, 4, 12} {
		runs(t, single(head, 2, put, op(api.Get, 2, slot, 0)), api.Input{Args: []int{4, 5}, Spill: []int{10, 11, 12}}, 1, api.Outcome{Kind: api.Halted, Result: want})
	}
}

// Both ways to trap on a cell, at and just beyond the bounds, for every count of cells.
func TestP7Bounds(t *testing.T) {
	for data := 0; data <= 8; data++ {
		mem := []int{10, 11, 12, 13, 14, 15, 16, 17}[:data]
		load := single(api.Prog{Args: 1, Regs: 2, Data: data}, 1, op(api.Load, 1, 0, 0))
		store := single(api.Prog{Args: 2, Regs: 2, Data: data}, 1, op(api.Store, 0, 1, 0))
		for _, n := range append(words(), 4, 5, 6, -256, 256, data-1, data, data+1) {
			of, at := api.Input{Args: []int{n}, Mem: mem}, api.Input{Args: []int{n, 99}, Mem: mem}
			if n < 0 || n >= data {
				trap := api.Outcome{Kind: api.Bounds, Leak: []int{n}}
				runs(t, load, of, 1, trap)
				runs(t, store, at, 1, trap)
				continue
			}
			then := append([]int(nil), mem...)
			then[n] = 99
			runs(t, load, of, 1, api.Outcome{Kind: api.Halted, Result: 10 + n, Mem: mem, Leak: []int{n}})
			runs(t, store, at, 1, api.Outcome{Kind: api.Halted, Result: 99, Mem: then, Leak: []int{n}})
		}
	}
}

// A trap ends the run at once: what was let out before it stays, its own words come last, and nothing of what follows is done.
func TestP7Traps(t *testing.T) {
	div, load, store := op(api.Div, 2, 0, 1), op(api.Load, 2, 3, 0), op(api.Store, 3, 0, 0)
	good := []int{6, 1}
	for _, c := range []struct {
		ops  []api.Op
		args []int
		kind int
		leak []int
	}{
		{[]api.Op{div, load}, []int{8, 0, 0, 9}, api.Divide, []int{8, 0}},
		{[]api.Op{load, div}, []int{8, 0, 0, 9}, api.Bounds, []int{9}},
		{[]api.Op{store, div}, []int{8, 0, 0, 2}, api.Bounds, []int{2}},
		{[]api.Op{store, load, div, load}, []int{8, 0, 0, 1}, api.Divide, []int{1, 1, 8, 0}},
		{[]api.Op{div, store, load, div}, []int{8, 3, 0, -1}, api.Bounds, []int{8, 3, -1}},
		{[]api.Op{div, div}, []int{0, 0, 0, 0}, api.Divide, []int{0, 0}},
		{[]api.Op{load, load}, []int{0, 0, 0, math.MinInt}, api.Bounds, []int{math.MinInt}},
		{[]api.Op{store, store}, []int{0, 0, 0, math.MaxInt}, api.Bounds, []int{math.MaxInt}},
	} {
		p := api.Prog{Args: 4, Regs: 4, Data: 2, Blocks: halts(2)}
		in := api.Input{Args: c.args, Mem: good}
		p.Blocks[0].Ops = c.ops
		for _, e := range []api.End{end(api.Halt, 0, 0, 0), end(api.Jump, 0, 0, 0), end(api.Branch, 0, 1, 1)} {
			p.Blocks[0].End = e
			runs(t, flat(p), in, 1, api.Outcome{Kind: c.kind, Leak: c.leak})
			runs(t, flat(p), in, 300, api.Outcome{Kind: c.kind, Leak: c.leak})
		}
		later := api.Prog{Args: 4, Regs: 4, Data: 2, Blocks: []api.Block{{End: end(api.Branch, 0, 1, 1)}, {Ops: c.ops, End: end(api.Halt, 0, 0, 0)}}}
		first := 1
		if c.args[0] == 0 {
			first = 0
		}
		runs(t, flat(later), in, 2, api.Outcome{Kind: c.kind, Leak: append([]int{first}, c.leak...)})
		runs(t, flat(later), in, 1, api.Outcome{Kind: api.Out, Mem: good, Leak: []int{first}})
	}
}

// A Branch lets out 1 for every word but 0, whichever way it goes; a Jump and a Halt let out nothing.
func TestP7Ends(t *testing.T) {
	p := api.Prog{Args: 2, Regs: 2, Blocks: halts(3)}
	p.Blocks[2].End.R = 1
	for _, x := range words() {
		bit, other := 1, 0
		if x == 0 {
			bit, other = 0, 1
		}
		for _, c := range []struct {
			e    api.End
			r    int
			leak []int
		}{
			{end(api.Jump, 0, 1, 0), x, nil}, {end(api.Jump, 0, 2, 0), 55, nil},
			{end(api.Branch, 0, 1, 2), bit*x + other*55, []int{bit}}, {end(api.Branch, 0, 2, 1), bit*55 + other*x, []int{bit}},
			{end(api.Branch, 0, 1, 1), x, []int{bit}}, {end(api.Branch, 0, 2, 2), 55, []int{bit}}, {end(api.Branch, 1, 1, 2), x, []int{1}},
		} {
			p.Blocks[0].End = c.e
			runs(t, flat(p), input(x, 55), 2, api.Outcome{Kind: api.Halted, Result: c.r, Leak: c.leak})
		}
	}
}

// Registers, cells and slots are kept from block to block, and a block may come again.
func TestP7Blocks(t *testing.T) {
	p := api.Prog{Args: 2, Regs: 4, Data: 2, Slots: 1, Blocks: []api.Block{
		{Ops: []api.Op{op(api.Put, 0, 1, 0), op(api.Const, 2, 128, 1), op(api.Move, 1, 2, 0)}, End: end(api.Jump, 0, 3, 0)},
		{Ops: []api.Op{op(api.Load, 1, 2, 0), op(api.Get, 2, 0, 0), op(api.Sub, 3, 1, 2)}, End: end(api.Halt, 3, 0, 0)},
		{},
		{Ops: []api.Op{op(api.Mul, 1, 1, 0), op(api.Store, 2, 1, 0), op(api.Sub, 0, 0, 2)}, End: end(api.Branch, 0, 3, 1)},
	}}
	p.Blocks[2].End = end(api.Halt, 0, 0, 0)
	want := api.Outcome{Kind: api.Halted, Result: 120 - 50, Mem: []int{-3, 120}, Leak: []int{1, 1, 1, 1, 1, 1, 1, 1, 1, 0, 1}}
	runs(t, flat(p), api.Input{Args: []int{5, 50}, Mem: []int{-3, -4}, Spill: []int{9}}, 7, want)
}

// anyInput: an input that fits a program, with many words that are numbers of cells.
func anyInput(r *rand.Rand, p api.Prog) api.Input {
	in := zeros(p, 0, 0, 0)
	l := words()
	for _, list := range [][]int{in.Args, in.Mem, in.Spill} {
		for i := range list {
			list[i] = r.Intn(8)
			if r.Intn(5) == 0 {
				list[i] = l[r.Intn(len(l))]
			}
		}
	}
	return in
}

// Programs of all kinds with inputs of all kinds do what the tables say, block by block.
func TestP7Any(t *testing.T) {
	r := rand.New(rand.NewSource(6))
	seen := map[int]int{}
	for n := 0; n < 20000; n++ {
		p := anyProg(r)
		for i := range p.Blocks {
			p.Blocks[i].Ops = p.Blocks[i].Ops[:min(len(p.Blocks[i].Ops), r.Intn(13))]
			for k, o := range p.Blocks[i].Ops {
				if o.Kind == api.Const && r.Intn(3) > 0 {
					p.Blocks[i].Ops[k].B, p.Blocks[i].Ops[k].C = 128, r.Intn(9)
				}
			}
		}
		in, s := anyInput(r, p), flat(p)
		for _, fuel := range []int{0, 1, 2, 3, r.Intn(301), 300} {
			want := told(p, in, fuel)
			seen[want.Kind]++
			runs(t, s, in, fuel, want)
		}
	}
	for kind := api.Halted; kind <= api.Out; kind++ {
		if seen[kind] < 1000 {
			t.Errorf("the kind %d came out %d times alone", kind, seen[kind])
		}
	}
}
