package twin_test

import (
	"math"
	"math/rand"
	"reflect"
	"strings"
	"testing"

	"twin/api"
	"twin/twin"
)

// text: bytes as a text.
func text(l ...int) string {
	b := make([]byte, len(l))
	for i, v := range l {
		b[i] = byte(v)
	}
	return string(b)
}

// numbers: what is tried in a field: all small ones, those that a byte would take for small ones, and the extremes.
func numbers() []int {
	l := []int{math.MinInt, math.MinInt + 1, math.MinInt32, -257, -256, -255, -2, -1, 253, 254, 255, 256, 1 << 31, 1 << 32, 1<<32 + 1, 1<<62 + 1, math.MaxInt - 1, math.MaxInt}
	for v := 0; v <= 20; v++ {
		l = append(l, v, 256+v)
	}
	return l
}

// shapes: what the fields of each kind of operation are: r register, s slot, b byte, 0 not named.
var shapes = map[int]string{1: "rbb", 2: "rr0", 3: "rrr", 4: "rrr", 5: "rrr", 6: "rrr", 7: "rrr", 8: "rrr", 9: "rrr", 10: "rrr", 11: "rrr", 12: "rr0", 13: "rr0", 14: "sr0", 15: "rs0"}

// endShapes: the same for ends; x block.
var endShapes = map[int]string{1: "0x0", 2: "rxx", 3: "r00"}

// fits: do the fields fit a shape in a program with so many registers, slots and blocks?
func fits(shape string, regs, slots, blocks int, fields ...int) bool {
	if shape == "" {
		return false
	}
	for i, v := range fields {
		most := map[byte]int{'r': regs - 1, 's': slots - 1, 'x': blocks - 1, 'b': 255, '0': 0}[shape[i]]
		if v < 0 || v > most {
			return false
		}
	}
	return true
}

// within: is v one of low to high?
func within(v, low, high int) bool { return low <= v && v <= high }

// wellMade: P3, said once more by the tables above.
func wellMade(p api.Prog) bool {
	if !within(p.Regs, 1, 8) || !within(p.Args, 0, p.Regs) || !within(p.Data, 0, 8) || !within(p.Slots, 0, 8) || !within(len(p.Blocks), 1, 6) {
		return false
	}
	for _, b := range p.Blocks {
		if len(b.Ops) > 12 || !fits(endShapes[b.End.Kind], p.Regs, p.Slots, len(p.Blocks), b.End.R, b.End.X, b.End.Y) {
			return false
		}
		for _, o := range b.Ops {
			if !fits(shapes[o.Kind], p.Regs, p.Slots, len(p.Blocks), o.A, o.B, o.C) {
				return false
			}
		}
	}
	return true
}

// flat: the fields of a program in the order of P4, each cut to a byte.
func flat(p api.Prog) string {
	l := []int{84, 87, p.Args, p.Regs, p.Data, p.Slots, len(p.Blocks)}
	for _, b := range p.Blocks {
		l = append(l, len(b.Ops))
		for _, o := range b.Ops {
			l = append(l, o.Kind, o.A, o.B, o.C)
		}
		l = append(l, b.End.Kind, b.End.R, b.End.X, b.End.Y)
	}
	return text(l...)
}

// inBytes: does each field fit into a byte, so that flat loses nothing?
func inBytes(p api.Prog) bool {
	l := []int{p.Args, p.Regs, p.Data, p.Slots, len(p.Blocks)}
	for _, b := range p.Blocks {
		l = append(l, len(b.Ops), b.End.Kind, b.End.R, b.End.X, b.End.Y)
		for _, o := range b.Ops {
			l = append(l, o.Kind, o.A, o.B, o.C)
		}
	}
	for _, v := range l {
		if !within(v, 0, 255) {
			return false
		}
	}
	return true
}

// sameProg: are the two the same, nil lists and empty ones taken alike?
func sameProg(p, q api.Prog) bool {
	if p.Args != q.Args || p.Regs != q.Regs || p.Data != q.Data || p.Slots != q.Slots || len(p.Blocks) != len(q.Blocks) {
		return false
	}
	for i := range p.Blocks {
		a, b := p.Blocks[i], q.Blocks[i]
		if a.End != b.End || len(a.Ops) != len(b.Ops) || (len(a.Ops) > 0 && !reflect.DeepEqual(a.Ops, b.Ops)) {
			return false
		}
	}
	return true
}

// checkProg: do Encode and Decode say of p what P3 and P4 ask?
func checkProg(t *testing.T, p api.Prog) {
	t.Helper()
	want, errno := "", api.ErrProgram
	if wellMade(p) {
		want, errno = flat(p), api.OK
	}
	if s, e := twin.Encode(p); s != want || e != errno {
		t.Errorf("Encode(%+v) = %v, %d, want %v, %d", p, []byte(s), e, []byte(want), errno)
	}
	if inBytes(p) {
		checkDecode(t, flat(p), p)
	}
}

// checkDecode: does Decode tell p of the text s, if p is well made, and refuse s, if not?
func checkDecode(t *testing.T, s string, p api.Prog) {
	t.Helper()
	errno := api.OK
	if !wellMade(p) {
		p, errno = api.Prog{}, api.ErrProgram
	}
	if q, e := twin.Decode(s); !sameProg(p, q) || e != errno {
		t.Errorf("Decode(%v) = %+v, %d, want %+v, %d", []byte(s), q, e, p, errno)
	}
}

// refused: does Decode say ErrProgram, and nothing else?
func refused(t *testing.T, s string) {
	t.Helper()
	if p, e := twin.Decode(s); e != api.ErrProgram || !sameProg(p, api.Prog{}) {
		t.Errorf("Decode(%.60q) = %+v, %d, want ErrProgram", s, p, e)
	}
}

// halts: as many blocks of no operation that halt.
func halts(n int) []api.Block {
	l := make([]api.Block, n)
	for i := range l {
		l[i].End.Kind = api.Halt
	}
	return l
}

// moves: as many operations that any program may have.
func moves(n int) []api.Op {
	l := make([]api.Op, n)
	for i := range l {
		l[i].Kind = api.Move
	}
	return l
}

func op(kind, a, b, c int) api.Op { return api.Op{Kind: kind, A: a, B: b, C: c} }

func end(kind, r, x, y int) api.End { return api.End{Kind: kind, R: r, X: x, Y: y} }

// every: a program with every kind of operation and of end.
func every() api.Prog {
	return api.Prog{Args: 2, Regs: 3, Data: 4, Slots: 5, Blocks: []api.Block{
		{Ops: []api.Op{op(1, 2, 255, 0), op(2, 1, 2, 0), op(3, 0, 1, 2), op(4, 2, 1, 0), op(5, 1, 1, 1), op(6, 2, 2, 2), op(7, 0, 0, 1), op(8, 1, 0, 2)}, End: api.End{Kind: api.Branch, R: 2, X: 1, Y: 2}},
		{Ops: []api.Op{op(9, 2, 0, 1), op(10, 0, 2, 1), op(11, 1, 2, 0), op(12, 2, 1, 0), op(13, 1, 2, 0), op(14, 4, 2, 0), op(15, 2, 4, 0)}, End: api.End{Kind: api.Jump, X: 2}},
		{End: api.End{Kind: api.Halt, R: 2}},
	}}
}

func TestP4Texts(t *testing.T) {
	for _, c := range []struct {
		name string
		p    api.Prog
		s    string
	}{
		{"least", api.Prog{Regs: 1, Blocks: halts(1)}, text(84, 87, 0, 1, 0, 0, 1, 0, 3, 0, 0, 0)},
		{"double", api.Prog{Args: 1, Regs: 2, Blocks: []api.Block{{Ops: []api.Op{{Kind: 3, A: 1}}, End: api.End{Kind: 3, R: 1}}}}, text(84, 87, 1, 2, 0, 0, 1, 1, 3, 1, 0, 0, 3, 1, 0, 0)},
		{"also", api.Prog{Args: 1, Regs: 2, Blocks: []api.Block{{Ops: []api.Op{{Kind: 2, A: 1}, {Kind: 3, B: 1}}, End: api.End{Kind: 3}}}}, text(84, 87, 1, 2, 0, 0, 1, 2, 2, 1, 0, 0, 3, 0, 1, 0, 3, 0, 0, 0)},
		{"count", api.Prog{Args: 1, Regs: 2, Blocks: []api.Block{{Ops: []api.Op{op(1, 1, 128, 1), op(4, 0, 0, 1)}, End: api.End{Kind: 2, Y: 1}}, {End: api.End{Kind: 3, R: 1}}}}, text(84, 87, 1, 2, 0, 0, 2, 2, 1, 1, 128, 1, 4, 0, 0, 1, 2, 0, 0, 1, 0, 3, 1, 0, 0)},
		{"cell", api.Prog{Args: 2, Regs: 3, Data: 2, Blocks: []api.Block{{Ops: []api.Op{{Kind: 13, B: 1}, {Kind: 12, A: 2}}, End: api.End{Kind: 3, R: 2}}}}, text(84, 87, 2, 3, 2, 0, 1, 2, 13, 0, 1, 0, 12, 2, 0, 0, 3, 2, 0, 0)},
		{"over", api.Prog{Args: 2, Regs: 2, Blocks: []api.Block{{Ops: []api.Op{{Kind: 11, C: 1}}, End: api.End{Kind: 3}}}}, text(84, 87, 2, 2, 0, 0, 1, 1, 11, 0, 0, 1, 3, 0, 0, 0)},
		{"every", every(), text(84, 87, 2, 3, 4, 5, 3,
			8, 1, 2, 255, 0, 2, 1, 2, 0, 3, 0, 1, 2, 4, 2, 1, 0, 5, 1, 1, 1, 6, 2, 2, 2, 7, 0, 0, 1, 8, 1, 0, 2, 2, 2, 1, 2,
			7, 9, 2, 0, 1, 10, 0, 2, 1, 11, 1, 2, 0, 12, 2, 1, 0, 13, 1, 2, 0, 14, 4, 2, 0, 15, 2, 4, 0, 1, 0, 2, 0,
			0, 3, 2, 0, 0)},
	} {
		if s, e := twin.Encode(c.p); s != c.s || e != api.OK {
			t.Errorf("Encode(%s) = %v, %d, want %v", c.name, []byte(s), e, []byte(c.s))
		}
		if p, e := twin.Decode(c.s); !sameProg(p, c.p) || e != api.OK {
			t.Errorf("Decode(%s) = %+v, %d, want %+v", c.name, p, e, c.p)
		}
	}
}

// The greatest program of all: every count at its limit.
func TestP4Greatest(t *testing.T) {
	p := api.Prog{Args: 8, Regs: 8, Data: 8, Slots: 8, Blocks: halts(6)}
	for i := range p.Blocks {
		p.Blocks[i].Ops = moves(12)
	}
	checkProg(t, p)
	if s, e := twin.Encode(p); len(s) != 7+6*(1+12*4+4) || e != api.OK {
		t.Errorf("Encode = %d bytes, %d", len(s), e)
	}
}

func TestP3Heads(t *testing.T) {
	for _, v := range numbers() {
		for regs := 0; regs <= 9; regs++ {
			checkProg(t, api.Prog{Args: v, Regs: regs, Blocks: halts(1)})
		}
		for _, args := range []int{math.MinInt, -1, 0, 1, 7, 8, 9, 256, math.MaxInt} {
			checkProg(t, api.Prog{Args: args, Regs: v, Blocks: halts(1)})
		}
		checkProg(t, api.Prog{Regs: 1, Data: v, Blocks: halts(1)})
		checkProg(t, api.Prog{Regs: 1, Slots: v, Blocks: halts(1)})
	}
}

func TestP3Counts(t *testing.T) {
	for _, blocks := range [][]api.Block{nil, {}} {
		checkProg(t, api.Prog{Regs: 1, Blocks: blocks})
	}
	for _, ops := range [][]api.Op{nil, {}} {
		checkProg(t, api.Prog{Regs: 1, Blocks: []api.Block{{Ops: ops, End: api.End{Kind: api.Halt}}}})
	}
	for _, n := range []int{1, 2, 3, 4, 5, 6, 7, 8, 255, 256, 257, 258, 262, 100000} {
		checkProg(t, api.Prog{Regs: 1, Blocks: halts(n)})
	}
	for _, n := range []int{1, 2, 11, 12, 13, 14, 255, 256, 257, 268, 100000} {
		for where := 0; where < 3; where++ {
			p := api.Prog{Regs: 1, Blocks: halts(3)}
			p.Blocks[where].Ops = moves(n)
			checkProg(t, p)
		}
	}
}

// Each field of each kind of operation, at every number tried, in programs of the least and the greatest size and of one between.
func TestP3Operations(t *testing.T) {
	kinds := append(numbers(), 270, 271)
	for _, size := range [][2]int{{1, 0}, {3, 2}, {2, 5}, {8, 8}} {
		for _, kind := range kinds {
			for field := 0; field < 3; field++ {
				for _, v := range numbers() {
					o := api.Op{Kind: kind}
					*[]*int{&o.A, &o.B, &o.C}[field] = v
					p := api.Prog{Regs: size[0], Slots: size[1], Blocks: halts(2)}
					p.Blocks[1].Ops = []api.Op{{Kind: api.Move}, o, {Kind: api.Move}}
					checkProg(t, p)
				}
			}
		}
	}
}

func TestP3Ends(t *testing.T) {
	for _, regs := range []int{1, 3, 8} {
		for _, blocks := range []int{1, 2, 6} {
			for _, kind := range numbers() {
				for field := 0; field < 3; field++ {
					for _, v := range numbers() {
						e := api.End{Kind: kind}
						*[]*int{&e.R, &e.X, &e.Y}[field] = v
						p := api.Prog{Regs: regs, Blocks: halts(blocks)}
						p.Blocks[blocks-1].End = e
						checkProg(t, p)
					}
				}
			}
		}
	}
}

// Each field that the table does not name must be 0, in a program that is well made but for it.
func TestP3NotNamed(t *testing.T) {
	for kind, shape := range shapes {
		for field := range shape {
			if shape[field] != '0' {
				continue
			}
			for _, v := range []int{math.MinInt, -1, 1, 2, 255, 256, math.MaxInt} {
				o := api.Op{Kind: kind}
				*[]*int{&o.A, &o.B, &o.C}[field] = v
				p := api.Prog{Regs: 8, Data: 8, Slots: 8, Blocks: halts(1)}
				p.Blocks[0].Ops = []api.Op{o}
				if s, e := twin.Encode(p); s != "" || e != api.ErrProgram {
					t.Errorf("Encode with %+v = %v, %d", o, []byte(s), e)
				}
			}
		}
	}
	for _, e := range []api.End{end(1, 1, 0, 0), end(1, -1, 0, 0), end(1, 0, 0, 1), end(1, 0, 0, -1), end(3, 0, 1, 0), end(3, 0, -1, 0), end(3, 0, 0, 1), end(3, 0, 0, 255)} {
		p := api.Prog{Regs: 8, Blocks: halts(6)}
		p.Blocks[5].End = e
		if s, errno := twin.Encode(p); s != "" || errno != api.ErrProgram {
			t.Errorf("Encode with %+v = %v, %d", e, []byte(s), errno)
		}
		refused(t, flat(p))
	}
}

// A fault in any block is seen, not in the first or the last alone.
func TestP3EveryBlock(t *testing.T) {
	for i := 0; i < 6; i++ {
		p := api.Prog{Regs: 1, Blocks: halts(6)}
		p.Blocks[i].End.R = 1
		checkProg(t, p)
		p.Blocks[i].End.R = 0
		for j := 0; j < 12; j++ {
			p.Blocks[i].Ops = moves(12)
			checkProg(t, p)
			p.Blocks[i].Ops[j].A = 1
			checkProg(t, p)
		}
	}
}

func TestP4NoTexts(t *testing.T) {
	good := flat(every())
	checkDecode(t, good, every())
	for i := range good {
		refused(t, good[:i])
	}
	for v := 0; v < 256; v++ {
		refused(t, good+text(v))
		refused(t, text(v)+good)
		if v != 'T' {
			refused(t, text(v)+good[1:])
		}
		if v != 'W' {
			refused(t, text(84, v)+good[2:])
		}
	}
	for _, s := range []string{"", "T", "TW", "tw" + good[2:], "TH" + good[2:], good + good, good + strings.Repeat("\x00", 1000), strings.Repeat("T", 1000000), strings.Repeat("\xff", 1000000), "TW" + strings.Repeat("\xff", 1000000), "TW" + strings.Repeat("\x01", 1000000), good + "ü", "\xef\xbb\xbf" + good} {
		refused(t, s)
	}
}

// split: a text's program by P4 alone, whatever its fields are; false, if the text is cut short or goes on behind.
func split(s string) (api.Prog, bool) {
	if !strings.HasPrefix(s, "TW") || len(s) < 7 {
		return api.Prog{}, false
	}
	p := api.Prog{Args: int(s[2]), Regs: int(s[3]), Data: int(s[4]), Slots: int(s[5]), Blocks: make([]api.Block, s[6])}
	s = s[7:]
	for i := range p.Blocks {
		if len(s) < 1 || len(s) < 1+4*int(s[0])+4 {
			return api.Prog{}, false
		}
		p.Blocks[i].Ops = make([]api.Op, s[0])
		s = s[1:]
		for k := range p.Blocks[i].Ops {
			p.Blocks[i].Ops[k] = api.Op{Kind: int(s[0]), A: int(s[1]), B: int(s[2]), C: int(s[3])}
			s = s[4:]
		}
		p.Blocks[i].End = api.End{Kind: int(s[0]), R: int(s[1]), X: int(s[2]), Y: int(s[3])}
		s = s[4:]
	}
	return p, s == ""
}

// checkText: is s refused or read as P3 and P4 ask, and written again as it was?
func checkText(t *testing.T, s string) {
	t.Helper()
	p, ok := split(s)
	if !ok {
		refused(t, s)
		return
	}
	checkDecode(t, s, p)
	if q, e := twin.Decode(s); e == api.OK {
		if again, e := twin.Encode(q); again != s || e != api.OK {
			t.Errorf("Encode(Decode(%v)) = %v, %d", []byte(s), []byte(again), e)
		}
	}
}

// Every byte of a good text changed to every other; and texts with several changes.
func TestP4ChangedTexts(t *testing.T) {
	good := flat(every())
	for i := range good {
		for v := 0; v < 256; v++ {
			checkText(t, good[:i]+text(v)+good[i+1:])
		}
		checkText(t, good[:i]+good[i+1:])
		checkText(t, good[:i]+"\x00"+good[i:])
	}
	r := rand.New(rand.NewSource(1))
	for n := 0; n < 20000; n++ {
		b := []byte(good)
		for k := r.Intn(4); k >= 0; k-- {
			b[r.Intn(len(b))] = byte(r.Intn(9))
		}
		checkText(t, string(b))
	}
}

// anyProg: a well made program of any size.
func anyProg(r *rand.Rand) api.Prog {
	p := api.Prog{Regs: 1 + r.Intn(8), Data: r.Intn(9), Slots: r.Intn(9), Blocks: make([]api.Block, 1+r.Intn(6))}
	p.Args = r.Intn(p.Regs + 1)
	pick := func(c byte) int {
		most := map[byte]int{'r': p.Regs, 's': p.Slots, 'x': len(p.Blocks), 'b': 256, '0': 1}[c]
		return r.Intn(most)
	}
	for i := range p.Blocks {
		for k := r.Intn(13); k > 0; k-- {
			kind := 1 + r.Intn(15)
			if p.Slots == 0 && kind >= api.Put {
				kind = api.Move
			}
			f := shapes[kind]
			p.Blocks[i].Ops = append(p.Blocks[i].Ops, api.Op{Kind: kind, A: pick(f[0]), B: pick(f[1]), C: pick(f[2])})
		}
		kind := 1 + r.Intn(3)
		f := endShapes[kind]
		p.Blocks[i].End = api.End{Kind: kind, R: pick(f[0]), X: pick(f[1]), Y: pick(f[2])}
	}
	return p
}

// Programs of all kinds, there and back.
func TestP4ThereAndBack(t *testing.T) {
	r := rand.New(rand.NewSource(2))
	for n := 0; n < 5000; n++ {
		p := anyProg(r)
		if !wellMade(p) {
			t.Fatalf("the test's own program is not well made: %+v", p)
		}
		checkProg(t, p)
	}
}
