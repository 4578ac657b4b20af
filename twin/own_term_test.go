package twin_test

import (
	"fmt"
	"math/rand"
	"slices"
	"testing"

	"twin/api"
	"twin/twin"
)

// Term and Marks end without a panic at whatever they are handed, and beside an error there is nothing else.
func TestP1WildTerms(t *testing.T) {
	r := rand.New(rand.NewSource(35))
	good := flat(every())
	for n := 0; n < 20000; n++ {
		b := []byte(good)
		for k := r.Intn(4); k > 0; k-- {
			b[r.Intn(len(b))] = byte(r.Intn(9))
		}
		block, place := somewhere(r), somewhere(r)
		p, errno := twin.Decode(string(b))
		switch {
		case errno == api.ErrProgram:
			tellsNot(t, string(b), block, place, errno)
			marksNot(t, string(b), block, errno)
			continue
		case !within(block, 0, len(p.Blocks)-1):
			tellsNot(t, string(b), block, place, api.ErrArg)
			marksNot(t, string(b), block, api.ErrArg)
			continue
		}
		places, want, _ := computes(p, block)
		marks(t, string(b), block, want...)
		if within(place, 0, p.Regs+p.Slots) {
			tells(t, string(b), block, place, places[place])
		} else {
			tellsNot(t, string(b), block, place, api.ErrArg)
		}
	}
}

// Every well made program, at every block and place.
func TestP1EveryPlace(t *testing.T) {
	r := rand.New(rand.NewSource(36))
	for n := 0; n < 2000; n++ {
		p := anyProg(r)
		for block := -1; block <= len(p.Blocks); block++ {
			for place := -1; place <= p.Regs+p.Slots+1; place++ {
				if !within(block, 0, len(p.Blocks)-1) || !within(place, 0, p.Regs+p.Slots) {
					tellsNot(t, flat(p), block, place, api.ErrArg)
				} else if places, _, big := computes(p, block); big {
					tellsNot(t, flat(p), block, place, api.ErrBig)
				} else {
					tells(t, flat(p), block, place, places[place])
				}
			}
		}
	}
}

// What is written into a list of marks, to the end of its room, changes no other, and no later answer.
func TestP2OwnMarks(t *testing.T) {
	for steps := range map[string]bool{"r4 = (@ m r0)": true, "r4 = (/ r0 r1); [r2] = r3; r4 = (@ m 9)": true, "r4 = (/ r0 r1); r4 = (@ m r0); r4 = (@ m r1); r4 = (@ m r2); r4 = (@ m r3)": true, "": true} {
		s := oneBlock(steps)
		_, want, _ := computes(decoded(t, s), 0)
		first, _ := twin.Marks(s, 0)
		second, _ := twin.Marks(s, 0)
		for _, l := range [][]string{first, first[:cap(first)]} {
			for i := range l {
				l[i] = "no mark"
			}
		}
		first = append(first, "no mark")
		if !slices.Equal(second, want) {
			t.Errorf("what was written into one list changed another: %q, want %q", second, want)
		}
		marks(t, s, 0, want...)
	}
}

// The same terms and marks come out, whatever was asked in between.
func TestP2NoTermKept(t *testing.T) {
	s, _ := busy()
	p := decoded(t, s)
	places, all, _ := computes(p, 0)
	for n := 0; n < 20; n++ {
		for place, want := range places {
			tells(t, s, 0, place, want)
			tells(t, count, 0, 0, "(+ r0 -1)")
			tellsNot(t, s, -n-1, place, api.ErrArg)
			tellsNot(t, s[:n], 0, place, api.ErrProgram)
		}
		marks(t, s, 0, all...)
		marks(t, cell, 0, "@ r0")
		marksNot(t, oneBlock(grown(10)+"; [r4] = r4"), 0, api.ErrBig)
		tells(t, s, 1, 2, "r2")
		marks(t, s, 1)
	}
	if fmt.Sprint(all) == "[]" {
		t.Error("the test's own program has no marks")
	}
}
