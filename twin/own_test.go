package twin_test

import (
	"math/rand"
	"reflect"
	"strings"
	"testing"

	"twin/api"
	"twin/twin"
)

// somewhere: a number from all of them, small ones more often.
func somewhere(r *rand.Rand) int {
	l := numbers()
	if r.Intn(3) > 0 {
		return r.Intn(5)
	}
	return l[r.Intn(len(l))]
}

// Every call ends without a panic, and beside an error there is nothing else.
func TestP1Wild(t *testing.T) {
	r := rand.New(rand.NewSource(4))
	for n := 0; n < 20000; n++ {
		p := api.Prog{Args: somewhere(r), Regs: somewhere(r), Data: somewhere(r), Slots: somewhere(r), Blocks: make([]api.Block, r.Intn(9))}
		for i := range p.Blocks {
			p.Blocks[i].End = api.End{Kind: somewhere(r), R: somewhere(r), X: somewhere(r), Y: somewhere(r)}
			for k := r.Intn(3); k > 0; k-- {
				p.Blocks[i].Ops = append(p.Blocks[i].Ops, api.Op{Kind: somewhere(r), A: somewhere(r), B: somewhere(r), C: somewhere(r)})
			}
		}
		checkProg(t, p)
		h := api.Hint{Blocks: make([]api.Pairing, r.Intn(9))}
		for i := range h.Blocks {
			h.Blocks[i].Source = somewhere(r)
			for k := r.Intn(4); k > 0; k-- {
				h.Blocks[i].Pairs = append(h.Blocks[i].Pairs, api.Pair{Reg: somewhere(r), Place: somewhere(r)})
			}
		}
		checkHint(t, h)
	}
}

func TestP1WildTexts(t *testing.T) {
	r := rand.New(rand.NewSource(5))
	for n := 0; n < 20000; n++ {
		b := make([]byte, r.Intn(60))
		for i := range b {
			b[i] = byte(somewhere(r))
		}
		for _, head := range []string{"", "TW", "TH"} {
			s := head + string(b)
			checkText(t, s)
			checkHintText(t, s)
		}
	}
	for n := 0; n < 300; n++ {
		s := strings.Repeat("\xff", n)
		for _, head := range []string{"", "TW", "TH", "TW\x00\x01\x00\x00", "TW\x00\x01\x00\x00\x01", "TH\x01\x00"} {
			checkText(t, head+s)
			checkHintText(t, head+s)
		}
	}
}

// An error comes with the zero value, to the last field.
func TestP1Nothing(t *testing.T) {
	good := flat(every())
	for _, s := range []string{"", "TW", good[:len(good)-1], good + "\x00", good[:len(good)-1] + "\x01"} {
		if p, e := twin.Decode(s); e != api.ErrProgram || p.Args != 0 || p.Regs != 0 || p.Data != 0 || p.Slots != 0 || len(p.Blocks) != 0 {
			t.Errorf("Decode(%v) = %+v, %d", []byte(s), p, e)
		}
	}
	hint := text(hintFields(some())...)
	for _, s := range []string{"", "TH", hint[:len(hint)-1], hint + "\x00", hint[:len(hint)-1] + "\x10"} {
		if h, e := twin.DecodeHint(s); e != api.ErrHint || len(h.Blocks) != 0 {
			t.Errorf("DecodeHint(%v) = %+v, %d", []byte(s), h, e)
		}
	}
	if s, e := twin.Encode(api.Prog{}); s != "" || e != api.ErrProgram {
		t.Errorf("Encode of nothing = %q, %d", s, e)
	}
	if s, e := twin.EncodeHint(api.Hint{}); s != "" || e != api.ErrHint {
		t.Errorf("EncodeHint of nothing = %q, %d", s, e)
	}
}

// roomy: a program whose lists have spare room, filled, behind them.
func roomy(p api.Prog) api.Prog {
	blocks := make([]api.Block, 0, len(p.Blocks)+5)
	for _, b := range p.Blocks {
		ops := append(make([]api.Op, 0, len(b.Ops)+5), b.Ops...)
		for i := len(ops); i < cap(ops); i++ {
			ops[:cap(ops)][i] = api.Op{Kind: 77, A: i, B: 78, C: 79}
		}
		blocks = append(blocks, api.Block{Ops: ops, End: b.End})
	}
	for i := len(blocks); i < cap(blocks); i++ {
		blocks[:cap(blocks)][i] = api.Block{Ops: moves(2), End: api.End{Kind: 80, R: i}}
	}
	p.Blocks = blocks
	return p
}

// allOf: every list of a program with its spare room, copied.
func allOf(p api.Prog) []any {
	l := []any{p.Args, p.Regs, p.Data, p.Slots, len(p.Blocks)}
	for _, b := range p.Blocks[:cap(p.Blocks)] {
		l = append(l, b.End, len(b.Ops), append([]api.Op(nil), b.Ops[:cap(b.Ops)]...))
	}
	return l
}

// roomyHint: as roomy, for a hint.
func roomyHint(h api.Hint) api.Hint {
	blocks := make([]api.Pairing, 0, len(h.Blocks)+5)
	for _, b := range h.Blocks {
		pairs := append(make([]api.Pair, 0, len(b.Pairs)+5), b.Pairs...)
		for i := len(pairs); i < cap(pairs); i++ {
			pairs[:cap(pairs)][i] = api.Pair{Reg: 77, Place: i}
		}
		blocks = append(blocks, api.Pairing{Source: b.Source, Pairs: pairs})
	}
	for i := len(blocks); i < cap(blocks); i++ {
		blocks[:cap(blocks)][i] = api.Pairing{Source: 80 + i, Pairs: rising(2)}
	}
	return api.Hint{Blocks: blocks}
}

// allOfHint: every list of a hint with its spare room, copied.
func allOfHint(h api.Hint) []any {
	l := []any{len(h.Blocks)}
	for _, b := range h.Blocks[:cap(h.Blocks)] {
		l = append(l, b.Source, len(b.Pairs), append([]api.Pair(nil), b.Pairs[:cap(b.Pairs)]...))
	}
	return l
}

// Nothing that is handed in is written into, nor its spare room, be it well made or not.
func TestP2HandedIn(t *testing.T) {
	wrong := every()
	wrong.Blocks[2].End.R = 3
	for _, q := range []api.Prog{every(), wrong, {Regs: 1, Blocks: halts(6)}, {Regs: 1, Blocks: halts(7)}, {}} {
		p := roomy(q)
		before := allOf(p)
		s, _ := twin.Encode(p)
		if !reflect.DeepEqual(before, allOf(p)) {
			t.Errorf("Encode wrote into what it was handed: %v, then %v", before, allOf(p))
		}
		if plain, _ := twin.Encode(q); plain != s {
			t.Errorf("Encode hangs on the spare room: %v, %v", []byte(s), []byte(plain))
		}
	}
	off := some()
	off.Blocks[3].Pairs[15].Place = 16
	for _, g := range []api.Hint{some(), off, {Blocks: make([]api.Pairing, 6)}, {Blocks: make([]api.Pairing, 7)}, {}} {
		h := roomyHint(g)
		before := allOfHint(h)
		s, _ := twin.EncodeHint(h)
		if !reflect.DeepEqual(before, allOfHint(h)) {
			t.Errorf("EncodeHint wrote into what it was handed: %v, then %v", before, allOfHint(h))
		}
		if plain, _ := twin.EncodeHint(g); plain != s {
			t.Errorf("EncodeHint hangs on the spare room: %v, %v", []byte(s), []byte(plain))
		}
	}
}

// What is written into one list of an answer, to the end of its room, changes no other list, of this answer or another.
func TestP2OwnProgram(t *testing.T) {
	p := api.Prog{Args: 8, Regs: 8, Data: 8, Slots: 8, Blocks: halts(6)}
	for i := range p.Blocks {
		p.Blocks[i].Ops = moves(1 + 2*i)
	}
	s := flat(p)
	other, _ := twin.Decode(s)
	for i := range p.Blocks {
		q, e := twin.Decode(s)
		if e != api.OK || !sameProg(p, q) {
			t.Fatalf("Decode = %+v, %d", q, e)
		}
		ops := q.Blocks[i].Ops
		for k := range ops[:cap(ops)] {
			ops[:cap(ops)][k] = api.Op{Kind: 77, A: 77, B: 77, C: 77}
		}
		q.Blocks[i].Ops = p.Blocks[i].Ops
		if !sameProg(p, q) || !sameProg(p, other) {
			t.Errorf("what was written into the operations of block %d changed another list: %+v, %+v", i, q, other)
		}
	}
	q, _ := twin.Decode(s)
	lists := append([]api.Block(nil), q.Blocks...)
	for i := range q.Blocks[:cap(q.Blocks)] {
		q.Blocks[:cap(q.Blocks)][i] = api.Block{Ops: moves(1), End: api.End{Kind: 77}}
	}
	q.Blocks = lists
	if !sameProg(p, q) || !sameProg(p, other) {
		t.Errorf("what was written into the blocks changed another list: %+v, %+v", q, other)
	}
}

func TestP2OwnHint(t *testing.T) {
	h := api.Hint{Blocks: make([]api.Pairing, 6)}
	for i := range h.Blocks {
		h.Blocks[i] = api.Pairing{Source: i, Pairs: rising(1 + 3*i)}
	}
	s := text(hintFields(h)...)
	other, _ := twin.DecodeHint(s)
	for i := range h.Blocks {
		g, e := twin.DecodeHint(s)
		if e != api.OK || !sameHint(h, g) {
			t.Fatalf("DecodeHint = %+v, %d", g, e)
		}
		pairs := g.Blocks[i].Pairs
		for k := range pairs[:cap(pairs)] {
			pairs[:cap(pairs)][k] = api.Pair{Reg: 77, Place: 77}
		}
		g.Blocks[i].Pairs = h.Blocks[i].Pairs
		if !sameHint(h, g) || !sameHint(h, other) {
			t.Errorf("what was written into the pairs of block %d changed another list: %+v, %+v", i, g, other)
		}
	}
	g, _ := twin.DecodeHint(s)
	lists := append([]api.Pairing(nil), g.Blocks...)
	for i := range g.Blocks[:cap(g.Blocks)] {
		g.Blocks[:cap(g.Blocks)][i] = api.Pairing{Source: 77}
	}
	g.Blocks = lists
	if !sameHint(h, g) || !sameHint(h, other) {
		t.Errorf("what was written into the blocks changed another list: %+v, %+v", g, other)
	}
}

// The same call answers the same, whatever was called in between and whatever was done with what came out.
func TestP2NothingKept(t *testing.T) {
	p, h := every(), some()
	s, hint := flat(p), text(hintFields(h)...)
	for n := 0; n < 20; n++ {
		checkProg(t, p)
		checkHint(t, h)
		refused(t, s[:n])
		refusedHint(t, hint[:n])
		q, _ := twin.Decode(s)
		for i := range q.Blocks {
			clear(q.Blocks[i].Ops)
		}
		clear(q.Blocks)
		g, _ := twin.DecodeHint(hint)
		for i := range g.Blocks {
			clear(g.Blocks[i].Pairs)
		}
		clear(g.Blocks)
		checkProg(t, api.Prog{Regs: 1, Blocks: halts(1 + n)})
		checkHint(t, api.Hint{Blocks: make([]api.Pairing, n)})
	}
}
