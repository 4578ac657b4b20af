package twin_test

import (
	"fmt"
	"math/rand"
	"slices"
	"strings"
	"testing"

	"twin/api"
	"twin/twin"
)

// answers: does Validate answer this reason and this block?
func answers(t *testing.T, source, target, hint string, want api.Errno, block int) {
	t.Helper()
	if e, b := twin.Validate(source, target, hint); e != want || b != block {
		t.Errorf("Validate(%v, %v, %v) = %d, %d, want %d, %d", clipped(source), clipped(target), clipped(hint), e, b, want, block)
	}
}

// clipped: the first bytes of a text.
func clipped(s string) []byte { return []byte(s[:min(len(s), 300)]) }

// judged: P12 said once more: everything that is wrong is gathered, then the first of it is told.
func judged(source, target, hint string) (api.Errno, int) {
	p, okSource := split(source)
	q, okTarget := split(target)
	h, okHint := splitHint(hint)
	switch {
	case !okSource || !wellMade(p) || p.Slots != 0:
		return api.ErrSource, 0
	case !okTarget || !wellMade(q):
		return api.ErrTarget, 0
	case p.Args != q.Args || p.Data != q.Data:
		return api.ErrShape, 0
	case !okHint || !wellMadeHint(h) || len(h.Blocks) != len(q.Blocks):
		return api.ErrHint, 0
	}
	start := h.Blocks[0].Source == 0
	for b, pairing := range h.Blocks {
		if !within(pairing.Source, 0, len(p.Blocks)-1) {
			return api.ErrHint, 0
		}
		for _, pair := range pairing.Pairs {
			if !within(pair.Reg, 0, p.Regs-1) || !within(pair.Place, 0, q.Regs+q.Slots-1) {
				return api.ErrHint, 0
			}
			same := pair.Reg == pair.Place || min(pair.Reg, pair.Place) >= p.Args
			start = start && (b > 0 || same && pair.Place < q.Regs)
		}
	}
	if !start {
		return api.ErrStart, 0
	}
	for b := range q.Blocks {
		wrong := wrongAt(p, q, h, b)
		for _, reason := range []api.Errno{api.ErrBig, api.ErrMarks, api.ErrMemory, api.ErrEnd, api.ErrEdge, api.ErrPair} {
			if wrong[reason] {
				return reason, b
			}
		}
	}
	return api.OK, 0
}

// wrongAt: every reason that holds of block b of the target; edges and pairs are looked at if the ends are the same.
func wrongAt(p, q api.Prog, h api.Hint, b int) map[api.Errno]bool {
	var begin []string
	for place := range q.Regs + q.Slots {
		begin = append(begin, fmt.Sprint("x", place))
	}
	for _, pair := range h.Blocks[b].Pairs {
		begin[pair.Place] = fmt.Sprint("r", pair.Reg)
	}
	of := h.Blocks[b].Source
	ours, ourMarks, big := computes(p, of)
	theirs, theirMarks, big2 := computesFrom(q, b, begin)
	if big || big2 {
		return map[api.Errno]bool{api.ErrBig: true}
	}
	wrong := map[api.Errno]bool{}
	wrong[api.ErrMarks] = !slices.Equal(ourMarks, theirMarks)
	wrong[api.ErrMemory] = ours[p.Regs] != theirs[q.Regs+q.Slots]
	end, edges := leaving(p.Blocks[of].End, ours)
	end2, edges2 := leaving(q.Blocks[b].End, theirs)
	if end != end2 {
		wrong[api.ErrEnd] = true
		return wrong
	}
	for i, d := range edges2 {
		wrong[api.ErrEdge] = wrong[api.ErrEdge] || h.Blocks[d].Source != edges[i]
		for _, pair := range h.Blocks[d].Pairs {
			wrong[api.ErrPair] = wrong[api.ErrPair] || ours[pair.Reg] != theirs[pair.Place]
		}
	}
	return wrong
}

// leaving: an end as a text, and the blocks that it goes on with.
func leaving(e api.End, places []string) (string, []int) {
	if n, ok := asNumber(places[e.R]); ok && e.Kind == api.Branch {
		e.Kind = api.Jump
		if n == 0 {
			e.X = e.Y
		}
	}
	switch e.Kind {
	case api.Halt:
		return "halt " + places[e.R], nil
	case api.Jump:
		return "jump", []int{e.X}
	}
	return "branch " + places[e.R], []int{e.X, e.Y}
}

// block: a block that is written out.
func block(steps string, kind, r, x, y int) api.Block {
	return api.Block{Ops: written(steps), End: end(kind, r, x, y)}
}

// blocks: a program of 3 arguments, 8 registers and 4 cells; target: the same with 2 slots, the places 8 and 9.
func blocks(l ...api.Block) string { return flat(api.Prog{Args: 3, Regs: 8, Data: 4, Blocks: l}) }

func target(l ...api.Block) string {
	return flat(api.Prog{Args: 3, Regs: 8, Data: 4, Slots: 2, Blocks: l})
}

// hinted: a hint's text; each block's pairing is written `source reg:place reg:place ..`.
func hinted(pairings ...string) string {
	var h api.Hint
	for _, s := range pairings {
		var b api.Pairing
		f := strings.Fields(s)
		fmt.Sscan(f[0], &b.Source)
		for _, pair := range f[1:] {
			var p api.Pair
			fmt.Sscanf(pair, "%d:%d", &p.Reg, &p.Place)
			b.Pairs = append(b.Pairs, p)
		}
		h.Blocks = append(h.Blocks, b)
	}
	return text(hintFields(h)...)
}

// itself: the hint that pairs so many registers of so many blocks with themselves.
func itself(blocks, regs int) string {
	h := api.Hint{Blocks: make([]api.Pairing, blocks)}
	for i := range h.Blocks {
		h.Blocks[i] = api.Pairing{Source: i, Pairs: rising(regs)}
	}
	return text(hintFields(h)...)
}

// against: does Validate answer this of two programs of one block, written out, that halt with register 4?
func against(t *testing.T, source, steps string, want api.Errno) {
	t.Helper()
	answers(t, blocks(block(source, api.Halt, 4, 0, 0)), target(block(steps, api.Halt, 4, 0, 0)), itself(1, 8), want, 0)
}

func TestP12Examples(t *testing.T) {
	answers(t, double, also, text(84, 72, 1, 0, 1, 0, 0), api.OK, 0)
	answers(t, double, also, text(84, 72, 1, 0, 0), api.ErrEnd, 0)
	answers(t, double, also, text(84, 72, 1, 0, 1, 1, 0), api.ErrStart, 0)
	answers(t, double, count, text(84, 72, 1, 0, 0), api.ErrHint, 0)
	for _, h := range []string{"", text(84, 72, 1, 0, 0), text(84, 72, 1, 0, 1, 0, 0), text(84, 72, 1, 0, 1, 1, 0), text(84, 72, 2, 0, 0, 0, 0)} {
		answers(t, double, over, h, api.ErrShape, 0)
	}
}

// The reasons up to ErrStart, each against all that come after it; they come with block 0, and before any block.
func TestP12Order(t *testing.T) {
	type arg struct {
		s      string
		reason api.Errno
	}
	differs := block("[r0] = r1", api.Halt, 0, 0, 0)
	good := api.Prog{Args: 3, Regs: 8, Data: 4, Blocks: []api.Block{block("", api.Halt, 0, 0, 0), block("", api.Halt, 1, 0, 0)}}
	sources := []arg{{flat(good), api.OK}, {"", api.ErrSource}, {flat(good)[1:], api.ErrSource}, {flat(good) + "\x00", api.ErrSource}, {hinted("0", "0"), api.ErrSource}}
	slots := good
	slots.Slots = 1
	sources = append(sources, arg{flat(slots), api.ErrSource})
	targets := []arg{{flat(good), api.OK}, {flat(slots), api.OK}, {target(differs, differs), api.OK}, {"", api.ErrTarget}, {flat(good)[1:], api.ErrTarget}, {flat(good) + "\x00", api.ErrTarget}}
	for _, other := range [][2]int{{2, 4}, {4, 4}, {3, 3}, {3, 5}, {0, 0}, {4, 3}} {
		shape := good
		shape.Args, shape.Data = other[0], other[1]
		targets = append(targets, arg{flat(shape), api.ErrShape})
	}
	var hints []arg
	for _, h := range []string{"", "TH", "TH\x00", flat(good), hinted("0", "0") + "\x00", hinted("0", "0")[:6], hinted("0"), hinted("0", "0", "0"), hinted("0", "2"), hinted("2", "0"), hinted("0", "6"),
		hinted("0 0:1 1:0", "0"), hinted("0 0:0 0:0", "0"), hinted("0", "0 8:0"), hinted("0", "0 0:10"), hinted("0 0:10", "0"), hinted("0", "0 0:16"), hinted("1", "2"), hinted("1", "0 0:10"), hinted("0 0:1", "0 0:10")} {
		hints = append(hints, arg{h, api.ErrHint})
	}
	for _, h := range []string{hinted("1", "0"), hinted("1", "1"), hinted("0 0:1", "0"), hinted("0 1:0", "1 0:0"), hinted("0 0:0 3:2", "0"), hinted("0 2:3", "0")} {
		hints = append(hints, arg{h, api.ErrStart})
	}
	for _, s := range sources {
		for _, q := range targets {
			for _, h := range hints {
				want := []api.Errno{s.reason, q.reason, h.reason}
				for want[0] == api.OK {
					want = want[1:]
				}
				answers(t, s.s, q.s, h.s, want[0], 0)
			}
		}
	}
	answers(t, flat(good), target(differs, differs), hinted("0", "0"), api.ErrMarks, 0)
	answers(t, flat(good), flat(good), hinted("0 0:0", "1 1:1"), api.OK, 0)
}

// A source may have no slot at all; a target may have all.
func TestP12Slots(t *testing.T) {
	for slots := 0; slots <= 8; slots++ {
		s := single(api.Prog{Args: 1, Regs: 1, Slots: slots}, 0)
		none := single(api.Prog{Args: 1, Regs: 1}, 0)
		answers(t, none, s, hinted("0 0:0"), api.OK, 0)
		if slots > 0 {
			answers(t, s, none, hinted("0 0:0"), api.ErrSource, 0)
			answers(t, s, s, hinted("0 0:0"), api.ErrSource, 0)
		}
	}
}

// Every shape against every other; registers, slots and blocks may differ.
func TestP12Shape(t *testing.T) {
	for args := 0; args <= 5; args++ {
		for data := 0; data <= 8; data++ {
			for other := 0; other <= 5; other++ {
				for cells := 0; cells <= 8; cells++ {
					want := api.OK
					if args != other || data != cells {
						want = api.ErrShape
					}
					answers(t, single(api.Prog{Args: args, Regs: 5, Data: data}, 0), single(api.Prog{Args: other, Regs: 8, Data: cells, Slots: 3}, 0), hinted("0 0:0"), want, 0)
				}
			}
		}
	}
}

// known: a program of blocks that jump back to block 0 without a look at any register.
func known(regs, slots, n int) string {
	p := api.Prog{Regs: regs, Slots: slots, Blocks: make([]api.Block, n)}
	for i := range p.Blocks {
		p.Blocks[i].End.Kind = api.Jump
	}
	return flat(p)
}

// As many blocks as the target has, each Source a block of the source, each Reg a register of it, each Place a place
// of the target.
func TestP12Fits(t *testing.T) {
	for ours := 1; ours <= 6; ours++ {
		for theirs := 1; theirs <= 6; theirs++ {
			for n := 1; n <= 6; n++ {
				for of := 0; of <= 5; of++ {
					l := append(slices.Repeat([]string{"0"}, n-1), fmt.Sprint(of))
					want := api.OK
					switch {
					case n != theirs || of >= ours:
						want = api.ErrHint
					case n == 1 && of > 0:
						want = api.ErrStart
					}
					answers(t, known(1, 0, ours), known(1, 0, theirs), hinted(l...), want, 0)
				}
			}
		}
	}
	for regs := 1; regs <= 8; regs++ {
		for slots := 0; slots <= 8; slots++ {
			for reg := 0; reg < 8; reg++ {
				for place := 0; place < 16; place++ {
					want := api.OK
					if reg >= 9-regs || place >= regs+slots {
						want = api.ErrHint
					}
					answers(t, known(9-regs, 0, 1), known(regs, slots, 2), hinted("0", fmt.Sprintf("0 %d:%d", reg, place)), want, 0)
				}
			}
		}
	}
}

// Block 0's pairs: the same register, or two that are no arguments; no slot. Other blocks' pairs are free in this.
func TestP12Start(t *testing.T) {
	for args := 0; args <= 4; args++ {
		s := flat(api.Prog{Args: args, Regs: 4, Blocks: []api.Block{{Ops: []api.Op{op(api.Const, 0, 128, 7)}, End: end(api.Halt, 0, 0, 0)}}})
		for reg := 0; reg < 4; reg++ {
			for place := 0; place < 8; place++ {
				q := flat(api.Prog{Args: args, Regs: 6, Slots: 2, Blocks: []api.Block{{Ops: []api.Op{op(api.Const, 0, 128, 7)}, End: end(api.Halt, 0, 0, 0)}, {Ops: []api.Op{op(api.Const, 5, 128, 7)}, End: end(api.Halt, 5, 0, 0)}}})
				want := api.ErrStart
				if place < 6 && (reg == place || reg >= args && place >= args) {
					want = api.OK
				}
				pair := fmt.Sprintf("0 %d:%d", reg, place)
				answers(t, s, q, hinted(pair, "0"), want, 0)
				answers(t, s, q, hinted("0", pair), api.OK, 0)
				if place > 0 {
					answers(t, s, q, hinted("0 0:0"+pair[1:], "0"), want, 0)
				}
			}
		}
	}
}

// What a place begins as: with a pair the source's register, else what is known of nothing, be it a register of the
// target with the same number. One register of the source may stand in several places.
func TestP12Begin(t *testing.T) {
	s := blocks(block("", api.Jump, 0, 1, 0), block("r4 = (- r0 r1)", api.Halt, 4, 0, 0))
	for _, c := range []struct {
		first, steps, pairs string
		want                api.Errno
		at                  int
	}{
		{"", "r4 = (- r0 r1)", "0:0 1:1", api.OK, 0},
		{"", "r4 = (- r0 r1)", "0:0", api.ErrEnd, 1},
		{"", "r4 = (- r0 r1)", "1:1", api.ErrEnd, 1},
		{"", "r4 = (- r0 r1)", "", api.ErrEnd, 1},
		{"", "r4 = (- r0 r1)", "0:0 0:1", api.ErrPair, 0},
		{"r1 = r0", "r4 = (- r0 r1)", "0:0 0:1", api.ErrEnd, 1},
		{"r5 = r0; r6 = r1", "r4 = (- r5 r6)", "0:5 1:6", api.OK, 0},
		{"r5 = r0; r6 = r1", "r4 = (- r6 r5)", "0:5 1:6", api.ErrEnd, 1},
		{"r5 = r0; r6 = r1", "r4 = (- r6 r5)", "1:5 0:6", api.ErrPair, 0},
		{"r5 = r1; r6 = r0", "r4 = (- r6 r5)", "1:5 0:6", api.OK, 0},
		{"s0 = r0; s1 = r1", "r4 = (- s0 s1)", "0:8 1:9", api.OK, 0},
		{"s0 = r0; s1 = r1", "r4 = (- s1 s0)", "0:8 1:9", api.ErrEnd, 1},
		{"s0 = r1; s1 = r0", "r4 = (- s1 s0)", "1:8 0:9", api.OK, 0},
		{"s0 = r0", "r4 = (- s0 r1)", "1:1 0:8", api.OK, 0},
		{"s1 = r0", "r4 = (- s0 r1)", "1:1 0:8", api.ErrPair, 0},
		{"s0 = r0", "r4 = (- s0 r1)", "1:1", api.ErrEnd, 1},
		{"s0 = r0; r5 = r0", "r4 = (- r0 r1)", "0:0 1:1 0:5 0:8", api.OK, 0},
		{"s0 = r0; r5 = r0", "r4 = (- s0 r1)", "0:0 1:1 0:5 0:8", api.OK, 0},
		{"s0 = r0; r5 = r1", "r4 = (- s0 r1)", "0:0 1:1 0:5 0:8", api.ErrPair, 0},
		{"s0 = r0; r5 = r0", "s0 = r1; r4 = (- s0 r1)", "0:0 1:1 0:5 0:8", api.ErrEnd, 1},
	} {
		q := target(block(c.first, api.Jump, 0, 1, 0), block(c.steps, api.Halt, 4, 0, 0))
		answers(t, s, q, hinted("0 0:0 1:1 2:2", "1 "+c.pairs), c.want, c.at)
	}
	// a term that is the same but for where its word stands: a place is not the register of its number
	answers(t, blocks(block("", api.Halt, 0, 0, 0)), target(block("", api.Halt, 0, 0, 0)), hinted("0 1:1"), api.ErrEnd, 0)
	answers(t, blocks(block("", api.Halt, 7, 0, 0)), target(block("", api.Halt, 5, 0, 0)), hinted("0 7:5"), api.OK, 0)
	answers(t, blocks(block("", api.Halt, 5, 0, 0)), target(block("", api.Halt, 5, 0, 0)), hinted("0 7:5"), api.ErrEnd, 0)
	// what a hint calls the same may be the same by the terms alone: without any pair
	answers(t, blocks(block("r4 = (^ r0 r0)", api.Halt, 4, 0, 0)), target(block("r1 = (- r5 r5)", api.Halt, 1, 0, 0)), hinted("0"), api.OK, 0)
}

// Each reason by itself, with all registers paired.
func TestP12Marks(t *testing.T) {
	against(t, "r5 = (@ m r0)", "r5 = (@ m r0)", api.OK)
	against(t, "r5 = (@ m r0)", "", api.ErrMarks)
	against(t, "", "r5 = (@ m r0)", api.ErrMarks)
	against(t, "r5 = (@ m r0)", "r5 = (@ m r1)", api.ErrMarks)
	against(t, "r5 = (@ m r0); r5 = (@ m r1)", "r5 = (@ m r1); r5 = (@ m r0)", api.ErrMarks)
	against(t, "r5 = (@ m r0); r5 = (@ m r1)", "r5 = (@ m r0)", api.ErrMarks)
	against(t, "r5 = (@ m r0)", "r5 = (@ m r0); r5 = (@ m r1)", api.ErrMarks)
	against(t, "r5 = (@ m r0)", "r5 = (@ m r0); r5 = (@ m r0)", api.OK)
	against(t, "r5 = (@ m r0)", "[r0] = (@ m r0)", api.OK)
	against(t, "r5 = (@ m 3)", "", api.OK)
	against(t, "", "r5 = (@ m 3)", api.OK)
	against(t, "r5 = (@ m 4)", "", api.ErrMarks)
	against(t, "", "r5 = (@ m 4)", api.ErrMarks)
	against(t, "", "r5 = (@ m -1)", api.ErrMarks)
	against(t, "r5 = (@ m 4)", "r5 = (@ m 5)", api.ErrMarks)
	against(t, "r5 = (/ r0 r1)", "r5 = (/ r0 r1)", api.OK)
	against(t, "r5 = (/ r0 r1)", "r5 = (/ r1 r0)", api.ErrMarks)
	against(t, "r5 = (/ r0 r1)", "", api.ErrMarks)
	against(t, "", "r5 = (/ r0 r1)", api.ErrMarks)
	against(t, "", "r5 = (/ r0 1)", api.ErrMarks)
	against(t, "", "r5 = (/ 7 2)", api.OK)
	against(t, "", "r5 = (/ 7 0)", api.ErrMarks)
	against(t, "r5 = (/ 8 0)", "r5 = (/ 7 0)", api.ErrMarks)
	against(t, "r5 = (@ m (+ r0 r1))", "r5 = (@ m (+ r1 r0))", api.OK)
	against(t, "r5 = (@ m (- r0 r1))", "r5 = (@ m (- r1 r0))", api.ErrMarks)
	against(t, "r5 = (@ m r0); r5 = (/ r0 r1)", "r5 = (/ r0 r1); r5 = (@ m r0)", api.ErrMarks)
	// with a store that differs too
	against(t, "[r0] = r1", "[r1] = r1", api.ErrMarks)
	against(t, "[r0] = r1", "", api.ErrMarks)
}

func TestP12Memory(t *testing.T) {
	against(t, "[r0] = r1", "[r0] = r1", api.OK)
	against(t, "[r0] = r1", "[r0] = r2", api.ErrMemory)
	against(t, "[1] = r1", "[2] = r1", api.ErrMemory)
	against(t, "[1] = r1", "", api.ErrMemory)
	against(t, "", "[1] = r1", api.ErrMemory)
	against(t, "[1] = r1; [2] = r0", "[2] = r0; [1] = r1", api.OK)
	against(t, "[1] = r1; [1] = r0", "[1] = r0", api.OK)
	against(t, "[1] = r1; [1] = r0", "[1] = r0; [1] = r1", api.ErrMemory)
	against(t, "[r0] = r1; [r0] = r2", "[r0] = r2", api.OK)
	against(t, "[r0] = r1; [r1] = r2", "[r0] = r1; [r1] = r2", api.OK)
	against(t, "[r0] = r1; [r1] = r2", "[r1] = r2; [r0] = r1", api.ErrMarks)
	against(t, "[r0] = r1; [r1] = r2", "r5 = (@ m r0); [r1] = r2; [r0] = r1", api.ErrMemory)
	against(t, "[1] = (@ m 1)", "", api.OK)
	against(t, "[1] = (@ m 2)", "", api.ErrMemory)
	against(t, "[1] = s0", "[1] = s0", api.ErrSource)
}

func TestP12End(t *testing.T) {
	l := []api.End{end(api.Jump, 0, 1, 0), end(api.Branch, 0, 1, 1), end(api.Branch, 1, 1, 1), end(api.Branch, 4, 1, 1), end(api.Halt, 0, 0, 0), end(api.Halt, 1, 0, 0), end(api.Halt, 4, 0, 0)}
	last := block("", api.Halt, 0, 0, 0)
	for _, steps := range []string{"r4 = (+ r0 1)", "r4 = r0", "r4 = r1", "r4 = 7", "r4 = 0"} {
		for i, e := range l {
			for k, f := range l {
				s := blocks(api.Block{Ops: written(steps), End: e}, last)
				q := target(api.Block{Ops: written(steps), End: f}, last)
				word := func(r int) string { return map[int]string{0: "r0", 1: "r1", 4: steps[5:]}[r] }
				kind := func(e api.End) int {
					if _, number := asNumber(word(e.R)); e.Kind == api.Branch && number {
						return api.Jump
					}
					return e.Kind
				}
				want := api.ErrEnd
				if kind(e) == kind(f) && (kind(e) == api.Jump || word(e.R) == word(f.R)) {
					want = api.OK
				}
				if i == k {
					want = api.OK
				}
				answers(t, s, q, itself(2, 3), want, 0)
			}
		}
	}
}

// A Branch by a number goes one way, in the source and in the target; where the other way leads is nothing.
func TestP12KnownBranch(t *testing.T) {
	last := []api.Block{block("", api.Halt, 0, 0, 0), block("r0 = 5", api.Halt, 0, 0, 0)}
	for _, n := range []int{-32768, -1, 0, 1, 2, 32767} {
		for to := 1; to <= 2; to++ {
			for other := 0; other <= 2; other++ {
				x, y := to, other
				if n == 0 {
					x, y = other, to
				}
				known := append([]api.Block{block(fmt.Sprintf("r3 = %d", n), api.Branch, 3, x, y)}, last...)
				for jump := 1; jump <= 2; jump++ {
					plain := append([]api.Block{block("", api.Jump, 0, jump, 0)}, last...)
					want := api.OK
					if jump != to {
						want = api.ErrEdge
					}
					answers(t, blocks(known...), target(plain...), itself(3, 3), want, 0)
					answers(t, blocks(plain...), target(known...), itself(3, 3), want, 0)
				}
				answers(t, blocks(known...), target(known...), itself(3, 3), api.OK, 0)
				// its register need not be the same, nor the number
				changed := append([]api.Block{block(fmt.Sprintf("r6 = (- %d 1); r6 = (+ r6 1)", n), api.Branch, 6, x, y)}, last...)
				answers(t, blocks(known...), target(changed...), itself(3, 3), api.OK, 0)
			}
		}
	}
	two := append([]api.Block{block("r3 = 1", api.Branch, 3, 1, 2)}, last...)
	five := append([]api.Block{block("r3 = 5", api.Branch, 3, 1, 2)}, last...)
	zero := append([]api.Block{block("r3 = 0", api.Branch, 3, 2, 1)}, last...)
	open := append([]api.Block{block("", api.Branch, 3, 1, 2)}, last...)
	answers(t, blocks(two...), target(five...), itself(3, 3), api.OK, 0)
	answers(t, blocks(two...), target(zero...), itself(3, 3), api.OK, 0)
	answers(t, blocks(two...), target(open...), itself(3, 4), api.ErrEnd, 0)
	answers(t, blocks(open...), target(two...), itself(3, 4), api.ErrEnd, 0)
	answers(t, blocks(open...), target(open...), itself(3, 4), api.OK, 0)
	// on the way that is not taken no pair is asked for
	away := append([]api.Block{block("r0 = 9; r3 = 0", api.Branch, 3, 2, 1)}, last...)
	hint := hinted("0 1:1", "1 0:0", "2 0:4")
	answers(t, blocks(append([]api.Block{block("r0 = 9", api.Jump, 0, 1, 0)}, last...)...), target(away...), hint, api.OK, 0)
	answers(t, blocks(away...), target(append([]api.Block{block("r0 = 9", api.Jump, 0, 1, 0)}, last...)...), hint, api.OK, 0)
}

func TestP12Edge(t *testing.T) {
	last := []api.Block{block("", api.Halt, 0, 0, 0), block("", api.Halt, 1, 0, 0), block("", api.Halt, 0, 0, 0)}
	first := func(x, y int) []api.Block { return append([]api.Block{block("", api.Branch, 2, x, y)}, last...) }
	jump := func(x int) []api.Block { return append([]api.Block{block("", api.Jump, 0, x, 0)}, last...) }
	for x := 0; x <= 3; x++ {
		for y := 0; y <= 3; y++ {
			want := api.ErrEdge
			if x == y {
				want = api.OK
			}
			answers(t, blocks(jump(x)...), target(jump(y)...), itself(4, 3), want, 0)
			for u := 0; u <= 3; u++ {
				for v := 0; v <= 3; v++ {
					want := api.ErrEdge
					if x == u && y == v {
						want = api.OK
					}
					answers(t, blocks(first(x, y)...), target(first(u, v)...), itself(4, 3), want, 0)
				}
			}
		}
	}
	// blocks in other places, one block of the source for two of the target, one of the source that the target lacks
	three := itself(3, 3)[len("TH\x03"):]
	swapped := "TH\x03" + three[:8] + three[16:] + three[8:16]
	answers(t, blocks(first(1, 2)[:3]...), target(block("", api.Branch, 2, 2, 1), last[1], last[0]), swapped, api.OK, 0)
	answers(t, blocks(first(1, 2)[:3]...), target(block("", api.Branch, 2, 1, 2), last[1], last[0]), swapped, api.ErrEdge, 0)
	answers(t, blocks(first(1, 1)[:2]...), target(first(1, 2)[0], last[0], last[0]), hinted("0 0:0 2:2", "1 0:0", "1 0:0"), api.OK, 0)
	answers(t, blocks(first(1, 2)...), target(first(1, 2)[:3]...), itself(3, 3), api.OK, 0)
	answers(t, blocks(first(1, 3)...), target(first(1, 2)[0], last[0], last[2]), hinted("0 0:0 2:2", "1 0:0", "3 0:0"), api.OK, 0)
	answers(t, blocks(first(1, 3)...), target(first(1, 2)[0], last[0], last[2]), hinted("0 0:0 2:2", "1 0:0", "1 0:0"), api.ErrEdge, 0)
	answers(t, blocks(first(1, 3)...), target(first(1, 2)[0], last[0], last[2]), hinted("0 0:0 2:2", "3 0:0", "3 0:0"), api.ErrEdge, 0)
	// back to block 0, whose pairs are asked for there too
	answers(t, blocks(block("r0 = (+ r0 1)", api.Branch, 0, 0, 1), last[0]), target(block("r0 = (+ r0 1)", api.Branch, 0, 0, 1), last[0]), itself(2, 1), api.OK, 0)
	answers(t, blocks(block("r0 = (+ r0 1)", api.Branch, 0, 0, 1), last[0]), target(block("r5 = (+ r0 1)", api.Branch, 5, 0, 1), block("", api.Halt, 5, 0, 0)), hinted("0 0:0", "1 0:5"), api.ErrPair, 0)
}

func TestP12Pair(t *testing.T) {
	last := block("r0 = 7", api.Halt, 0, 0, 0)
	s := blocks(block("r3 = (+ r0 1); r4 = (+ r0 r1)", api.Branch, 2, 1, 2), last, last)
	q := target(block("r5 = (+ r0 1); r6 = (+ r1 r0); s1 = r6", api.Branch, 2, 1, 2), last, last)
	holds := map[string]bool{"0:0": true, "1:1": true, "2:2": true, "3:5": true, "4:6": true, "4:9": true, "7:7": true} // 7 holds the 1 that is added
	for reg := 0; reg < 8; reg++ {
		for place := 0; place < 10; place++ {
			pair := fmt.Sprintf("%d:%d", reg, place)
			want := api.ErrPair
			if holds[pair] {
				want = api.OK
			}
			answers(t, s, q, hinted("0 0:0 1:1 2:2", "1 "+pair, "2"), want, 0)
			answers(t, s, q, hinted("0 0:0 1:1 2:2", "1", "2 "+pair), want, 0)
			answers(t, s, q, hinted("0 0:0 1:1 2:2", "1 0:0 1:1 2:2 3:5 4:6 4:9", "2 "+pair), want, 0)
			if place > 0 {
				answers(t, s, q, hinted("0 0:0 1:1 2:2", "1", "2 0:0 "+pair), want, 0)
			}
			if place < 9 {
				answers(t, s, q, hinted("0 0:0 1:1 2:2", "1 "+pair+" 4:9", "2"), want, 0)
			}
		}
	}
	// registers that begin as 0 are the same at the begin by pairs of block 0 alone
	answers(t, blocks(block("", api.Jump, 0, 1, 0), block("", api.Halt, 4, 0, 0)), target(block("", api.Jump, 0, 1, 0), block("", api.Halt, 5, 0, 0)), hinted("0 4:5", "1 4:5"), api.OK, 0)
	answers(t, blocks(block("", api.Jump, 0, 1, 0), block("", api.Halt, 4, 0, 0)), target(block("", api.Jump, 0, 1, 0), block("", api.Halt, 5, 0, 0)), hinted("0 4:4", "1 4:5"), api.ErrPair, 0)
}

// Both blocks are computed: a big one on either side is told, one that is no block's Source is not.
func TestP12Big(t *testing.T) {
	most, big := grown(11), grown(10)+"; [r4] = r4"
	halt := block("", api.Halt, 0, 0, 0)
	for _, c := range []struct {
		ours, theirs string
		want         api.Errno
	}{{most, most, api.OK}, {big, big, api.ErrBig}, {big, "", api.ErrBig}, {"", big, api.ErrBig}, {most, big, api.ErrBig}, {big, most, api.ErrBig}} {
		s := blocks(block("", api.Jump, 0, 1, 0), halt, block(c.ours, api.Halt, 0, 0, 0))
		q := target(block("", api.Jump, 0, 1, 0), halt, block(c.theirs, api.Halt, 0, 0, 0))
		answers(t, s, q, itself(3, 8), c.want, map[api.Errno]int{api.ErrBig: 2}[c.want])
		only := target(block("", api.Jump, 0, 1, 0), halt)
		answers(t, s, only, itself(2, 8), api.OK, 0)
	}
	// it is the target's own terms that count, not those that Term tells: x9 and r0 are both of size 1
	answers(t, blocks(block("r4 = 7", api.Halt, 4, 0, 0)), target(block(grown(11)+"; r4 = 7", api.Halt, 4, 0, 0)), hinted("0"), api.OK, 0)
	answers(t, blocks(block("r4 = 7", api.Halt, 4, 0, 0)), target(block(grown(12), api.Halt, 4, 0, 0)), hinted("0"), api.ErrBig, 0)
	// two registers of the target that hold one of the source make terms smaller
	small := doubled("(^ r0 r1)", 11)
	answers(t, blocks(block("r4 = 0", api.Jump, 0, 1, 0), block("r4 = 0", api.Halt, 4, 0, 0)), target(block("r1 = r0; r4 = 0", api.Jump, 0, 1, 0), block(small, api.Halt, 4, 0, 0)), hinted("0 0:0", "1 0:0 0:1"), api.OK, 0)
	answers(t, blocks(block("r4 = 0", api.Jump, 0, 1, 0), block("r4 = 0", api.Halt, 4, 0, 0)), target(block("r1 = r0; r4 = 0", api.Jump, 0, 1, 0), block(small, api.Halt, 4, 0, 0)), hinted("0 0:0", "1 0:0"), api.ErrBig, 1)
}

// Every choice of the things that can be wrong at a block: the first of them is told, with the block's number; and
// the first block at which any is, whatever is wrong at a later one.
func TestP12First(t *testing.T) {
	reasons := []api.Errno{api.ErrBig, api.ErrMarks, api.ErrMemory, api.ErrEnd, api.ErrEdge, api.ErrPair}
	at := func(wrong, b int) (source, target api.Block) {
		has := func(i int) bool { return wrong>>i&1 == 1 }
		source, target = block("", api.Branch, 0, 4, 5), block("", api.Branch, 0, 4, 5)
		if has(0) {
			target.Ops = written(grown(12))
		}
		if has(1) {
			source.Ops = append(source.Ops, op(api.Div, 7, 0, 1))
		}
		if has(2) {
			source.Ops = append(source.Ops, op(api.Const, 7, 128, 1), op(api.Store, 7, 0, 0))
		}
		if has(3) {
			source.End.R = 1
		}
		if has(4) {
			source.End.Y = 4
		}
		if has(5) {
			source.Ops = append(source.Ops, op(api.Const, 2, 128, 1))
		}
		return source, target
	}
	for wrong := 0; wrong < 64; wrong++ {
		for b := 1; b <= 3; b++ {
			for _, later := range []int{0, 1, 2, 4, 8, 16, 32, 63} {
				p := api.Prog{Args: 3, Regs: 8, Data: 4, Blocks: halts(6)}
				q := api.Prog{Args: 3, Regs: 8, Data: 4, Slots: 2, Blocks: halts(6)}
				p.Blocks[0], q.Blocks[0] = block("", api.Branch, 0, 1, 2), block("", api.Branch, 0, 1, 2)
				for i := 1; i <= 3; i++ {
					p.Blocks[i], q.Blocks[i] = at(map[bool]int{true: later}[i > b], i)
				}
				p.Blocks[b], q.Blocks[b] = at(wrong, b)
				want, block := api.OK, 0
				for i := len(reasons) - 1; i >= 0; i-- {
					if b < 3 && later>>i&1 == 1 {
						want, block = reasons[i], b+1
					}
				}
				for i := len(reasons) - 1; i >= 0; i-- {
					if wrong>>i&1 == 1 {
						want, block = reasons[i], b
					}
				}
				answers(t, flat(p), flat(q), itself(6, 3), want, block)
			}
		}
	}
}

// All edges are looked at before all pairs: a pair that is wrong on the first way, an edge on the second.
func TestP12EdgesFirst(t *testing.T) {
	last := block("r0 = 7", api.Halt, 0, 0, 0)
	s := blocks(block("r3 = 7", api.Branch, 0, 1, 2), last, last)
	answers(t, s, target(block("", api.Branch, 0, 1, 2), last, last), hinted("0 0:0", "1 3:3", "2"), api.ErrPair, 0)
	answers(t, s, target(block("", api.Branch, 0, 1, 2), last, last), hinted("0 0:0", "1 3:3", "1"), api.ErrEdge, 0)
	answers(t, s, target(block("", api.Branch, 0, 1, 2), last, last), hinted("0 0:0", "2", "2 3:3"), api.ErrEdge, 0)
	answers(t, s, target(block("", api.Branch, 0, 1, 2), last, last), hinted("0 0:0", "1", "2 3:3"), api.ErrPair, 0)
}

// Blocks that no run comes to are looked at as well.
func TestP12Unreached(t *testing.T) {
	halt := block("", api.Halt, 0, 0, 0)
	answers(t, blocks(halt, block("", api.Halt, 1, 0, 0)), target(halt, halt), itself(2, 3), api.ErrEnd, 1)
	answers(t, blocks(halt, block("", api.Halt, 1, 0, 0)), target(halt, halt), hinted("0 0:0", "0 0:0"), api.OK, 0)
	answers(t, blocks(halt), target(halt, halt, halt, halt, halt, block("[r0] = r1", api.Halt, 0, 0, 0)), hinted("0 0:0", "0 0:0", "0 0:0", "0 0:0", "0 0:0", "0 0:0"), api.ErrMarks, 5)
	// a block of the source may begin with another's pairs, and be wrong with one of them alone
	answers(t, blocks(halt), target(halt, halt, halt), hinted("0 0:0", "0 1:0", "0 0:0"), api.ErrEnd, 1)
}

// Every byte of three texts changed to others: held against P12 said once more.
func TestP12ChangedTexts(t *testing.T) {
	source := api.Prog{Args: 2, Regs: 4, Data: 2, Blocks: []api.Block{
		{Ops: []api.Op{op(api.Add, 2, 0, 1), op(api.Store, 0, 2, 0), op(api.Const, 3, 128, 1), op(api.Sub, 1, 1, 3)}, End: end(api.Branch, 1, 0, 1)},
		{Ops: []api.Op{op(api.Load, 3, 0, 0), op(api.Div, 3, 3, 2)}, End: end(api.Jump, 0, 2, 0)},
		{End: end(api.Halt, 3, 0, 0)},
	}}
	copied := api.Prog{Args: 2, Regs: 5, Data: 2, Slots: 1, Blocks: []api.Block{
		{Ops: []api.Op{op(api.Const, 4, 128, 1), op(api.Add, 2, 1, 0), op(api.Sub, 1, 1, 4), op(api.Store, 0, 2, 0), op(api.Put, 0, 2, 0)}, End: end(api.Branch, 1, 0, 1)},
		{Ops: []api.Op{op(api.Get, 3, 0, 0), op(api.Load, 2, 0, 0), op(api.Div, 1, 2, 3)}, End: end(api.Jump, 0, 2, 0)},
		{End: end(api.Halt, 1, 0, 0)},
	}}
	all := []string{flat(source), flat(copied), hinted("0 0:0 1:1", "1 0:0 2:5", "2 3:1")}
	answers(t, all[0], all[1], all[2], api.OK, 0)
	seen := map[api.Errno]int{}
	for k := range all {
		for i := range all[k] {
			for v := 0; v < 256; v++ {
				now := slices.Clone(all)
				now[k] = now[k][:i] + text(v) + now[k][i+1:]
				want, b := judged(now[0], now[1], now[2])
				answers(t, now[0], now[1], now[2], want, b)
				seen[want]++
			}
			now := slices.Clone(all)
			now[k] = now[k][:i]
			want, b := judged(now[0], now[1], now[2])
			answers(t, now[0], now[1], now[2], want, b)
		}
	}
	for _, e := range []api.Errno{api.OK, api.ErrSource, api.ErrTarget, api.ErrShape, api.ErrHint, api.ErrStart, api.ErrMarks, api.ErrMemory, api.ErrEnd, api.ErrEdge, api.ErrPair} {
		if seen[e] == 0 {
			t.Errorf("the reason %d never came", e)
		}
	}
}

// Programs, targets made of them and hints, right ones and spoilt ones: held against P12 said once more.
func TestP12Any(t *testing.T) {
	r := rand.New(rand.NewSource(41))
	seen, later := map[api.Errno]int{}, map[api.Errno]int{}
	for n := 0; n < 25000; n++ {
		c := anyTwins(r)
		for k := r.Intn(4); k > 0; k-- {
			c = spoilt(r, c)
		}
		s, q, h := c.texts()
		want, b := judged(s, q, h)
		seen[want]++
		if b > 0 {
			later[want]++
		}
		answers(t, s, q, h, want, b)
	}
	for e := api.OK; e <= api.ErrPair; e++ {
		if blocks := e == api.ErrBig || e >= api.ErrMarks; blocks && later[e] < 50 {
			t.Errorf("the reason %d came %d times alone at a later block", e, later[e])
		}
		if !slices.Contains([]api.Errno{api.ErrProgram, api.ErrInput, api.ErrArg}, e) && seen[e] < 100 {
			t.Errorf("the reason %d came %d times alone", e, seen[e])
		}
	}
}
