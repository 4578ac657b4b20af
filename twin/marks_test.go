package twin_test

import (
	"fmt"
	"math"
	"math/rand"
	"slices"
	"strings"
	"testing"

	"twin/api"
	"twin/twin"
)

// marks: does Marks answer this list?
func marks(t *testing.T, s string, block int, want ...string) {
	t.Helper()
	if l, e := twin.Marks(s, block); !slices.Equal(l, want) || e != api.OK {
		t.Errorf("Marks(%v, %d) = %.300q, %d, want %.300q", []byte(s), block, l, e, want)
	}
}

// marksNot: does Marks answer this error, and nothing else?
func marksNot(t *testing.T, s string, block int, want api.Errno) {
	t.Helper()
	if l, e := twin.Marks(s, block); len(l) != 0 || e != want {
		t.Errorf("Marks(%.60q, %d) = %.60q, %d, want the error %d", s, block, l, e, want)
	}
}

// marked: are these the marks of a block with 4 cells, written out?
func marked(t *testing.T, steps string, want ...string) {
	t.Helper()
	if l, e := twin.Marks(oneBlock(steps), 0); !slices.Equal(l, want) || e != api.OK {
		t.Errorf("%s has the marks %q, %d, want %q", steps, l, e, want)
	}
}

func TestP11Examples(t *testing.T) {
	marks(t, double, 0)
	marks(t, also, 0)
	marks(t, count, 0)
	marks(t, count, 1)
	marks(t, cell, 0, "@ r0")
	marks(t, over, 0, "/ r0 r1")
	marks(t, swap, 0)
	marks(t, forever, 0)
}

// Load, Store and Div are marked, each with its own terms, and nothing else is.
func TestP11Kinds(t *testing.T) {
	for kind := api.Const; kind <= api.Get; kind++ {
		o := op(kind, 1, 2, 3)
		if shapes[kind][2] == '0' {
			o.C = 0
		}
		want := map[int][]string{api.Load: {"@ r2"}, api.Store: {"@ r1"}, api.Div: {"/ r2 r3"}}[kind]
		p := api.Prog{Regs: 4, Data: 4, Slots: 4, Blocks: halts(1)}
		p.Blocks[0].Ops = []api.Op{o}
		for _, e := range []api.End{end(api.Halt, 1, 0, 0), end(api.Branch, 1, 0, 0), end(api.Jump, 0, 0, 0)} {
			p.Blocks[0].End = e
			marks(t, flat(p), 0, want...)
		}
	}
}

// Marks stand in the order of the operations, with the terms of that time.
func TestP11Order(t *testing.T) {
	marked(t, "")
	marked(t, "r4 = (@ m r0); [r1] = r2; r4 = (/ r2 r3)", "@ r0", "@ r1", "/ r2 r3")
	marked(t, "r4 = (/ r2 r3); [r1] = r2; r4 = (@ m r0)", "/ r2 r3", "@ r1", "@ r0")
	marked(t, "r4 = (@ m r3); r4 = (@ m r1); r4 = (@ m r2); r4 = (@ m r0)", "@ r3", "@ r1", "@ r2", "@ r0")
	marked(t, "r0 = (+ r0 1); r4 = (@ m r0)", "@ (+ r0 1)")
	marked(t, "r4 = (@ m r0); r0 = (+ r0 1)", "@ r0")
	marked(t, "r4 = (@ m r0); r0 = (+ r0 1); r4 = (@ m r0)", "@ r0", "@ (+ r0 1)")
	marked(t, "r4 = (@ m (@ m r0))", "@ r0", "@ (@ m r0)")
	marked(t, "[(@ m r0)] = (@ m r1)", "@ r0", "@ r1", "@ (@ m r0)")
	marked(t, "r4 = (/ (/ r0 r1) r2)", "/ r0 r1", "/ (/ r0 r1) r2")
	marked(t, "r0 = (/ r0 r1); r0 = (/ r1 r0)", "/ r0 r1", "/ r1 (/ r0 r1)")
	marked(t, "r4 = (/ s0 s1); [s1] = r0", "/ x8 x9", "@ x9")
	marked(t, "r0 = (@ m r0); [r0] = r0; r0 = (@ m r0)", "@ r0", "@ (@ m r0)")
}

// What a rule of P9 leaves out of the term is marked all the same.
func TestP11Marked(t *testing.T) {
	marked(t, "r4 = (/ r0 1)", "/ r0 1")
	marked(t, "r4 = (* 0 (/ r0 r1))", "/ r0 r1")
	marked(t, "r4 = (* 0 (@ m r0))", "@ r0")
	marked(t, "[r0] = (@ m r0)", "@ r0")
	marked(t, "r4 = (@ m r0); r4 = 7", "@ r0")
	marked(t, "r5 = (+ r0 1); [r0] = r1; [r5] = r2; [r0] = r3", "@ r0", "@ (+ r0 1)")
	marked(t, "r4 = (/ (+ r0 0) (- r1 r2))", "/ r0 (- r1 r2)")
}

// A mark is left out if it stands in the list already, anywhere; and just not, if one like it does.
func TestP11Again(t *testing.T) {
	marked(t, "r4 = (@ m r0); r5 = (@ m r0)", "@ r0")
	marked(t, "[r0] = r1; [r0] = r2", "@ r0")
	marked(t, "r4 = (@ m r0); [r0] = r1", "@ r0")
	marked(t, "[r0] = r1; r4 = (@ m r0)", "@ r0")
	marked(t, "r4 = (@ m r0); r4 = (@ m r1); r4 = (@ m r2); r4 = (@ m r0); r4 = (@ m r1); r4 = (@ m r2)", "@ r0", "@ r1", "@ r2")
	marked(t, "r4 = (/ r0 r1); r5 = (/ r0 r1)", "/ r0 r1")
	marked(t, "r4 = (/ r0 r1); r4 = (@ m r0); r4 = (/ r0 r1)", "/ r0 r1", "@ r0")
	marked(t, "r4 = (/ r0 r1); r4 = (/ r1 r0); r4 = (/ r0 r2)", "/ r0 r1", "/ r1 r0", "/ r0 r2")
	marked(t, "r4 = (@ m (* r0 r1)); r4 = (@ m (* r1 r0))", "@ (* r0 r1)")
	marked(t, "r4 = (@ m (- r0 r1)); r4 = (@ m (- r1 r0))", "@ (- r0 r1)", "@ (- r1 r0)")
	marked(t, "r4 = (@ m 9); [9] = r0", "@ 9")
	marked(t, "r4 = (@ m 9); [10] = r0", "@ 9", "@ 10")
	marked(t, "r4 = (/ 7 0); r4 = (/ 7 0)", "/ 7 0")
	marked(t, "r4 = (/ 7 0); r4 = (/ 8 0)", "/ 7 0", "/ 8 0")
}

// The number of a cell that there is is left out, for every count of cells; numbers just beyond are not.
func TestP11Cells(t *testing.T) {
	for data := 0; data <= 8; data++ {
		for n := -3; n <= 11; n++ {
			var want []string
			if !within(n, 0, data-1) {
				want = []string{fmt.Sprintf("@ %d", n)}
			}
			number := op(api.Const, 0, (n+32768)/256, (n+32768)%256)
			head := api.Prog{Args: 1, Regs: 2, Data: data, Slots: 8 - data}
			marks(t, single(head, 0, number, op(api.Load, 1, 0, 0)), 0, want...)
			marks(t, single(head, 0, number, op(api.Store, 0, 1, 0)), 0, want...)
			marks(t, single(head, 0, op(api.Load, 1, 0, 0), number, op(api.Store, 0, 1, 0)), 0, append([]string{"@ r0"}, want...)...)
		}
	}
	marked(t, "r4 = (@ m 3)")
	marked(t, "r4 = (@ m 4)", "@ 4")
	marked(t, "r4 = (@ m (- 5 2)); [(* 2 2)] = r0", "@ 4")
	marked(t, "r4 = (@ m 256)", "@ 256")
	marked(t, "r4 = (@ m -9223372036854775808)", "@ -9223372036854775808")
	marked(t, "r4 = (@ m (- -9223372036854775808 1))", "@ 9223372036854775807")
	marked(t, "r4 = (@ m (- r0 r0)); r4 = (@ m (+ r0 0))", "@ r0")
}

// A division of a number by a number is left out, but for 0; with one number alone it is not.
func TestP11Divisions(t *testing.T) {
	for _, n := range []int{-32768, -7, -1, 0, 1, 7, 32767} {
		for _, k := range []int{-32768, -2, -1, 0, 1, 2, 32767} {
			term := fmt.Sprintf("r4 = (/ %d %d)", n, k)
			if k == 0 {
				marked(t, term, fmt.Sprintf("/ %d 0", n))
			} else {
				marked(t, term)
			}
		}
		marked(t, fmt.Sprintf("r4 = (/ r0 %d)", n), fmt.Sprintf("/ r0 %d", n))
		marked(t, fmt.Sprintf("r4 = (/ %d r0)", n), fmt.Sprintf("/ %d r0", n))
	}
	marked(t, "r4 = (/ (+ 3 4) (- 2 2))", "/ 7 0")
	marked(t, "r4 = (/ (/ 7 0) 2)", "/ 7 0", "/ (/ 7 0) 2")
	marked(t, "r4 = (/ 2 (/ 7 0))", "/ 7 0", "/ 2 (/ 7 0)")
	marked(t, "r4 = (/ (/ 7 2) (/ 4 2))")
}

// Twelve marks, as many as a block can have.
func TestP11Many(t *testing.T) {
	p := api.Prog{Regs: 8, Blocks: halts(1)}
	var want []string
	for i := 0; i < 12; i++ {
		p.Blocks[0].Ops = append(p.Blocks[0].Ops, []api.Op{op(api.Div, 7, i/2, i%2), op(api.Load, 7, i/2, 0)}[i%2])
		want = append(want, []string{fmt.Sprintf("/ r%d r%d", i/2, i%2), fmt.Sprintf("@ r%d", i/2)}[i%2])
	}
	marks(t, flat(p), 0, want...)
}

// Each block has its own marks.
func TestP11Blocks(t *testing.T) {
	p := api.Prog{Regs: 6, Data: 2, Blocks: halts(6)}
	for i := range p.Blocks {
		p.Blocks[i].Ops = []api.Op{op(api.Load, 5, i, 0)}
		p.Blocks[i].End = end(api.Jump, 0, (i+1)%6, 0)
	}
	for i := range p.Blocks {
		marks(t, flat(p), i, fmt.Sprintf("@ r%d", i))
	}
	for _, n := range []int{math.MinInt, -256, -6, -1, 6, 7, 255, 256, 1 << 32, math.MaxInt} {
		marksNot(t, flat(p), n, api.ErrArg)
		marksNot(t, flat(p)+"\x00", n, api.ErrProgram)
	}
	for blocks := 1; blocks <= 6; blocks++ {
		s := flat(api.Prog{Regs: 1, Blocks: halts(blocks)})
		marks(t, s, blocks-1)
		marksNot(t, s, blocks, api.ErrArg)
	}
}

// A big block has no marks, whatever stood in the list before; a block just not big has them.
func TestP11Big(t *testing.T) {
	big := oneBlock("r5 = (@ m r0); " + grown(10) + "; [r4] = r4")
	marksNot(t, big, 0, api.ErrBig)
	marksNot(t, big, 1, api.ErrArg)
	marksNot(t, big, -1, api.ErrArg)
	marksNot(t, big[1:], -1, api.ErrProgram)
	all := grown(11)
	term, _ := twin.Term(oneBlock(all), 0, 4)
	if sizeOf(term) != 4095 {
		t.Errorf("a term of %d parts, want 4095", sizeOf(term))
	}
	marked(t, "r5 = (@ m r0); "+all, "@ r0")
	marksNot(t, oneBlock(all+"; r5 = (/ r4 r0)"), 0, api.ErrBig)
	marksNot(t, oneBlock(all+"; r5 = (@ m r4)"), 0, api.ErrBig)
	half, _ := twin.Term(oneBlock(grown(10)), 0, 4)
	marked(t, grown(10)+"; r5 = (/ r4 r0); r5 = (@ m r4)", "/ "+half+" r0", "@ "+half)
}

// What Decode refuses, Marks refuses, and nothing else.
func TestP11NoTexts(t *testing.T) {
	s := flat(every())
	for i := range s {
		marksNot(t, s[:i], 0, api.ErrProgram)
		for v := 0; v < 256; v++ {
			changed := s[:i] + text(v) + s[i+1:]
			_, want := twin.Decode(changed)
			_, e := twin.Marks(changed, 0)
			if (want == api.ErrProgram) != (e == api.ErrProgram) {
				t.Errorf("Marks(%v) = %d, Decode = %d", []byte(changed), e, want)
			}
		}
	}
	for _, no := range []string{"", "TW", "tw" + s[2:], s + s, s + "\n", text(hintFields(some())...), strings.Repeat("\xff", 100000)} {
		for _, n := range []int{math.MinInt, -1, 0, 9, math.MaxInt} {
			marksNot(t, no, n, api.ErrProgram)
		}
	}
}

// Marks of all kinds, held against P11 said once more.
func TestP11Any(t *testing.T) {
	r := rand.New(rand.NewSource(33))
	for n := 0; n < 30000; n++ {
		p := anyBlocks(r)
		for block := range p.Blocks {
			_, want, big := computes(p, block)
			if big {
				marksNot(t, flat(p), block, api.ErrBig)
			} else {
				marks(t, flat(p), block, want...)
			}
		}
	}
}

// What a run of a block lets out, its marks and the numbers say: each mark's words are let out, in their order.
func TestP11Runs(t *testing.T) {
	r := rand.New(rand.NewSource(34))
	for n := 0; n < 30000; n++ {
		p := anyBlocks(r)
		p.Args, p.Blocks = p.Regs, p.Blocks[:1]
		in := zeros(p, 0, 0, 0)
		for i := range in.Args {
			in.Args[i] = r.Intn(p.Data + 2)
		}
		for i := range in.Mem {
			in.Mem[i] = r.Intn(p.Data + 2)
		}
		o, _ := twin.Run(flat(p), in, 1)
		l, errno := twin.Marks(flat(p), 0)
		if o.Kind != api.Halted || errno != api.OK {
			continue
		}
		places, leak := append(slices.Clone(in.Args), in.Spill...), o.Leak
		for _, mark := range l {
			words := parts("(" + mark + ")")[1:]
			for _, u := range words {
				if len(u) > 2000 {
					break
				}
				v := valueOf(u, places, in.Mem)
				at := slices.Index(leak, v)
				if at < 0 {
					t.Errorf("Marks(%v) = %q, of which %q is %d with %v; let out is %v", []byte(flat(p)), l, u, v, in, o.Leak)
					break
				}
				leak = leak[at+1:]
			}
		}
	}
}
