package twin_test

import (
	"fmt"
	"math/rand"
	"testing"

	"twin/api"
	"twin/twin"
)

// Run ends without a panic at whatever it is handed, and beside an error there is nothing else.
func TestP1WildRuns(t *testing.T) {
	r := rand.New(rand.NewSource(7))
	good := flat(every())
	for n := 0; n < 20000; n++ {
		b := []byte(good)
		for k := r.Intn(4); k > 0; k-- {
			b[r.Intn(len(b))] = byte(r.Intn(9))
		}
		in, fuel := zeros(api.Prog{}, r.Intn(4), r.Intn(6), r.Intn(7)), somewhere(r)
		for i := range in.Args {
			in.Args[i] = somewhere(r)
		}
		p, want := twin.Decode(string(b))
		switch {
		case want == api.ErrProgram:
		case len(in.Args) != p.Args || len(in.Mem) != p.Data || len(in.Spill) != p.Slots:
			want = api.ErrInput
		case !within(fuel, 0, 300):
			want = api.ErrArg
		default:
			runs(t, string(b), in, fuel, told(p, in, fuel))
			continue
		}
		runsNot(t, string(b), in, fuel, want)
	}
}

// busy: a program that writes into every register, cell and slot and lets out much, and an input for it.
func busy() (string, api.Input) {
	p := api.Prog{Args: 3, Regs: 4, Data: 3, Slots: 2, Blocks: halts(2)}
	p.Blocks[0].Ops = []api.Op{op(api.Store, 0, 1, 0), op(api.Store, 1, 2, 0), op(api.Load, 3, 0, 0), op(api.Put, 0, 3, 0), op(api.Put, 1, 0, 0),
		op(api.Div, 2, 2, 1), op(api.Const, 3, 128, 1), op(api.Sub, 1, 1, 3), op(api.Store, 1, 2, 0), op(api.Add, 0, 0, 3), op(api.Get, 2, 1, 0)}
	p.Blocks[0].End = end(api.Branch, 1, 0, 1)
	p.Blocks[1].End.R = 2
	return flat(p), api.Input{Args: []int{0, 2, 9}, Mem: []int{10, 11, 12}, Spill: []int{20, 21}}
}

// roomyInput: the same words, with spare room, filled, behind each list.
func roomyInput(in api.Input) api.Input {
	for _, l := range []*[]int{&in.Args, &in.Mem, &in.Spill} {
		room := append([]int(nil), *l...)
		for i := 0; i < 5; i++ {
			room = append(room, 70+i)
		}
		*l = room[:len(*l)]
	}
	return in
}

// allOfInput: every list of an input with its spare room, as a text.
func allOfInput(in api.Input) string {
	return fmt.Sprint(len(in.Args), in.Args[:cap(in.Args)], len(in.Mem), in.Mem[:cap(in.Mem)], len(in.Spill), in.Spill[:cap(in.Spill)])
}

// Nothing that is handed in is written into, nor its spare room, whatever the run ends with.
func TestP2RunHandedIn(t *testing.T) {
	s, good := busy()
	trap := api.Input{Args: []int{0, 0, 9}, Mem: good.Mem, Spill: good.Spill}
	beyond := api.Input{Args: []int{2, 1, 9}, Mem: good.Mem, Spill: good.Spill}
	for kind, c := range map[int]struct {
		in   api.Input
		fuel int
	}{api.Halted: {good, 300}, api.Out: {good, 1}, api.Divide: {trap, 300}, api.Bounds: {api.Input{Args: []int{3, 0, 0}, Mem: good.Mem, Spill: good.Spill}, 300}, 0: {beyond, -1}} {
		in := roomyInput(c.in)
		before := allOfInput(in)
		o, _ := twin.Run(s, in, c.fuel)
		if o.Kind != kind {
			t.Errorf("Run(%v, %d) = %+v, want the kind %d", c.in, c.fuel, o, kind)
		}
		if after := allOfInput(in); after != before {
			t.Errorf("Run wrote into what it was handed: %s, then %s", before, after)
		}
		if plain, _ := twin.Run(s, c.in, c.fuel); !sameOutcome(plain, o) {
			t.Errorf("Run hangs on the spare room: %+v, %+v", o, plain)
		}
	}
}

// One array may be handed in as all three lists: each is read as it was.
func TestP2RunSharedIn(t *testing.T) {
	p := api.Prog{Args: 3, Regs: 3, Data: 3, Slots: 3, Blocks: halts(1)}
	p.Blocks[0].Ops = []api.Op{op(api.Store, 0, 2, 0), op(api.Put, 1, 0, 0), op(api.Const, 0, 128, 1), op(api.Load, 2, 0, 0), op(api.Get, 1, 1, 0), op(api.Store, 0, 1, 0)}
	p.Blocks[0].End.R = 2
	l := []int{0, 1, 2, 77}
	in := api.Input{Args: l[:3], Mem: l[:3], Spill: l[:3]}
	runs(t, flat(p), in, 1, api.Outcome{Kind: api.Halted, Result: 1, Mem: []int{2, 0, 2}, Leak: []int{0, 1, 1}})
	if fmt.Sprint(l) != "[0 1 2 77]" {
		t.Errorf("Run wrote into what it was handed: %v", l)
	}
}

// fill: 66 in every word of a list, to the end of its room.
func fill(l []int) {
	for i := range l[:cap(l)] {
		l[:cap(l)][i] = 66
	}
}

// What is written into a list that came out, to the end of its room, changes no other list: of this answer, of another, or handed in.
func TestP2OwnOutcome(t *testing.T) {
	s, in := busy()
	for fuel := 0; fuel < 5; fuel++ {
		in := roomyInput(in)
		before := allOfInput(in)
		other, _ := twin.Run(s, in, fuel)
		want := fmt.Sprint(other)
		o, _ := twin.Run(s, in, fuel)
		leak := fmt.Sprint(o.Leak)
		fill(o.Mem)
		if fmt.Sprint(o.Leak) != leak || fmt.Sprint(other) != want || allOfInput(in) != before {
			t.Errorf("what was written into the cells changed another list: %v, %v, %s", o.Leak, other, allOfInput(in))
		}
		o, _ = twin.Run(s, in, fuel)
		mem := fmt.Sprint(o.Mem)
		fill(o.Leak)
		if fmt.Sprint(o.Mem) != mem || fmt.Sprint(other) != want || allOfInput(in) != before {
			t.Errorf("what was written into what was let out changed another list: %v, %v, %s", o.Mem, other, allOfInput(in))
		}
		fill(in.Args)
		fill(in.Mem)
		fill(in.Spill)
		if fmt.Sprint(other) != want {
			t.Errorf("what was written into the input changed the outcome: %v, want %s", other, want)
		}
	}
}

// The same run answers the same, whatever was run in between and whatever was done with what came out.
func TestP2NoRunKept(t *testing.T) {
	s, in := busy()
	first, _ := twin.Run(s, in, 300)
	want := fmt.Sprint(first)
	for n := 0; n < 20; n++ {
		o, e := twin.Run(s, in, 300)
		if e != api.OK || fmt.Sprint(o) != want {
			t.Errorf("Run = %v, %d, want %s", o, e, want)
		}
		fill(o.Mem)
		fill(o.Leak)
		runs(t, count, input(n+1), n+2, told(decoded(t, count), input(n+1), n+2))
		runs(t, over, input(n, 0), 1, api.Outcome{Kind: api.Divide, Leak: []int{n, 0}})
		runsNot(t, s[:n], in, 1, api.ErrProgram)
		runsNot(t, s, in, -n-1, api.ErrArg)
	}
}

// decoded: the program of a good text.
func decoded(t *testing.T, s string) api.Prog {
	t.Helper()
	p, ok := split(s)
	if !ok || !wellMade(p) {
		t.Fatalf("%v is no program's text", []byte(s))
	}
	return p
}
