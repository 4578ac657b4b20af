package twin_test

import (
	"math/rand"
	"strings"
	"testing"

	"twin/api"
	"twin/twin"
)

// Validate ends without a panic at whatever it is handed.
func TestP1WildTwins(t *testing.T) {
	r := rand.New(rand.NewSource(46))
	good := own(every())
	good.source.Slots = 0
	good.source.Blocks[1].Ops = good.source.Blocks[1].Ops[:5]
	s, q, h := good.texts()
	l := []string{"", "TW", "TH", s, q, h, double, also, count, cell, over, swap, forever, itself(1, 2), itself(2, 2), itself(6, 8), hinted("0"), hinted("5 7:15"), strings.Repeat("\xff", 100000), "TH" + strings.Repeat("\xff", 600), "TW\x08\x08\x08\x08\x06" + strings.Repeat("\xff", 600)}
	for _, a := range l {
		for _, b := range l {
			for _, c := range l {
				e, n := judged(a, b, c)
				answers(t, a, b, c, e, n)
			}
		}
	}
	for n := 0; n < 20000; n++ {
		texts := []string{s, q, h}
		for k := r.Intn(4); k > 0; k-- {
			i := r.Intn(3)
			b := []byte(texts[i])
			b[r.Intn(len(b))] = byte(r.Intn(9))
			texts[i] = string(b)
		}
		e, b := judged(texts[0], texts[1], texts[2])
		answers(t, texts[0], texts[1], texts[2], e, b)
	}
}

// Every two programs of any size, with hints of any kind.
func TestP1AnyTwins(t *testing.T) {
	r := rand.New(rand.NewSource(47))
	for n := 0; n < 5000; n++ {
		p, q := anyProg(r), anyProg(r)
		p.Args, p.Data, p.Slots = min(p.Args, q.Args), q.Data, 0
		q.Args = p.Args
		for i := range p.Blocks {
			for k, o := range p.Blocks[i].Ops {
				if o.Kind >= api.Put {
					p.Blocks[i].Ops[k] = op(api.Move, 0, 0, 0)
				}
			}
		}
		var h api.Hint
		for i := range q.Blocks {
			b := api.Pairing{Source: r.Intn(len(p.Blocks))}
			if i == 0 {
				b.Source = 0
			}
			for place := range q.Regs + q.Slots {
				if r.Intn(2) == 0 && (i > 0 || place < min(p.Regs, q.Regs)) {
					reg := r.Intn(p.Regs)
					if i == 0 {
						reg = place
					}
					b.Pairs = append(b.Pairs, api.Pair{Reg: reg, Place: place})
				}
			}
			h.Blocks = append(h.Blocks, b)
		}
		s, target, hint := twins{p, q, h}.texts()
		e, b := judged(s, target, hint)
		answers(t, s, target, hint, e, b)
	}
}

// The same texts get the same answer, whatever was asked in between.
func TestP2NoTwinsKept(t *testing.T) {
	big := blocks(block("", api.Jump, 0, 1, 0), block(grown(12), api.Halt, 0, 0, 0))
	for n := 0; n < 20; n++ {
		answers(t, double, also, hinted("0 0:0"), api.OK, 0)
		answers(t, double, also, hinted("0"), api.ErrEnd, 0)
		answers(t, big, big, itself(2, 8), api.ErrBig, 1)
		answers(t, double, also, hinted("0 0:0"), api.OK, 0)
		answers(t, double, double[:n%len(double)], hinted("0 0:0"), api.ErrTarget, 0)
		answers(t, cell, cell, itself(1, 3), api.OK, 0)
		answers(t, cell, cell, itself(1, 2), api.OK, 0)
		answers(t, cell, cell, itself(1, 1), api.ErrMemory, 0)
		marks(t, cell, 0, "@ r0")
		tells(t, also, 0, 0, "(+ r0 r0)")
		if e, b := twin.Validate(count, count, itself(2, 2)); e != api.OK || b != 0 {
			t.Errorf("Validate of count and itself = %d, %d", e, b)
		}
	}
}
