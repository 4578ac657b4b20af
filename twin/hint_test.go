package twin_test

import (
	"math/rand"
	"reflect"
	"strings"
	"testing"

	"twin/api"
	"twin/twin"
)

// wellMadeHint: P5, said once more.
func wellMadeHint(h api.Hint) bool {
	if !within(len(h.Blocks), 1, 6) {
		return false
	}
	for _, b := range h.Blocks {
		if !within(b.Source, 0, 5) || !within(len(b.Pairs), 0, 16) {
			return false
		}
		for i, p := range b.Pairs {
			if !within(p.Reg, 0, 7) || !within(p.Place, 0, 15) || (i > 0 && b.Pairs[i-1].Place >= p.Place) {
				return false
			}
		}
	}
	return true
}

// hintFields: the numbers of a hint in the order of its text.
func hintFields(h api.Hint) []int {
	l := []int{84, 72, len(h.Blocks)}
	for _, b := range h.Blocks {
		l = append(l, b.Source, len(b.Pairs))
		for _, p := range b.Pairs {
			l = append(l, p.Reg, p.Place)
		}
	}
	return l
}

// sameHint: are the two the same, nil lists and empty ones taken alike?
func sameHint(h, g api.Hint) bool {
	return len(h.Blocks) == len(g.Blocks) && reflect.DeepEqual(hintFields(h), hintFields(g))
}

// checkHint: do EncodeHint and DecodeHint say of h what P5 asks?
func checkHint(t *testing.T, h api.Hint) {
	t.Helper()
	l := hintFields(h)
	want, errno := "", api.ErrHint
	if wellMadeHint(h) {
		want, errno = text(l...), api.OK
	}
	if s, e := twin.EncodeHint(h); s != want || e != errno {
		t.Errorf("EncodeHint(%+v) = %v, %d, want %v, %d", h, []byte(s), e, []byte(want), errno)
	}
	for _, v := range l {
		if !within(v, 0, 255) {
			return
		}
	}
	checkHintText(t, text(l...))
}

// splitHint: a text's hint, whatever its fields are; false, if the text is cut short or goes on behind.
func splitHint(s string) (api.Hint, bool) {
	if !strings.HasPrefix(s, "TH") || len(s) < 3 {
		return api.Hint{}, false
	}
	h := api.Hint{Blocks: make([]api.Pairing, s[2])}
	s = s[3:]
	for i := range h.Blocks {
		if len(s) < 2 || len(s) < 2+2*int(s[1]) {
			return api.Hint{}, false
		}
		h.Blocks[i] = api.Pairing{Source: int(s[0]), Pairs: make([]api.Pair, s[1])}
		s = s[2:]
		for k := range h.Blocks[i].Pairs {
			h.Blocks[i].Pairs[k] = api.Pair{Reg: int(s[0]), Place: int(s[1])}
			s = s[2:]
		}
	}
	return h, s == ""
}

// checkHintText: is s refused or read as P5 asks?
func checkHintText(t *testing.T, s string) {
	t.Helper()
	want, ok := splitHint(s)
	errno := api.OK
	if !ok || !wellMadeHint(want) {
		want, errno = api.Hint{}, api.ErrHint
	}
	h, e := twin.DecodeHint(s)
	if !sameHint(h, want) || e != errno {
		t.Errorf("DecodeHint(%.200q) = %+v, %d, want %+v, %d", s, h, e, want, errno)
	}
	if e == api.OK {
		if again, e := twin.EncodeHint(h); again != s || e != api.OK {
			t.Errorf("EncodeHint(DecodeHint(%v)) = %v, %d", []byte(s), []byte(again), e)
		}
	}
}

// refusedHint: does DecodeHint say ErrHint, and nothing else?
func refusedHint(t *testing.T, s string) {
	t.Helper()
	if h, e := twin.DecodeHint(s); e != api.ErrHint || len(h.Blocks) != 0 {
		t.Errorf("DecodeHint(%.60q) = %+v, %d, want ErrHint", s, h, e)
	}
}

// rising: as many pairs, at the places from 0 on.
func rising(n int) []api.Pair {
	l := make([]api.Pair, n)
	for i := range l {
		l[i] = api.Pair{Reg: i % 8, Place: i}
	}
	return l
}

// some: a hint with several blocks and pairs.
func some() api.Hint {
	return api.Hint{Blocks: []api.Pairing{
		{Source: 0, Pairs: []api.Pair{{Reg: 0, Place: 0}, {Reg: 7, Place: 3}, {Reg: 7, Place: 15}}},
		{Source: 5},
		{Source: 0, Pairs: []api.Pair{{Reg: 2, Place: 15}}},
		{Source: 2, Pairs: rising(16)},
	}}
}

func TestP5Texts(t *testing.T) {
	for _, c := range []struct {
		h api.Hint
		s string
	}{
		{api.Hint{Blocks: []api.Pairing{{}}}, text(84, 72, 1, 0, 0)},
		{api.Hint{Blocks: []api.Pairing{{Pairs: []api.Pair{}}}}, text(84, 72, 1, 0, 0)},
		{api.Hint{Blocks: []api.Pairing{{Pairs: []api.Pair{{Reg: 0, Place: 0}}}}}, text(84, 72, 1, 0, 1, 0, 0)},
		{api.Hint{Blocks: []api.Pairing{{Pairs: []api.Pair{{Reg: 1, Place: 0}}}}}, text(84, 72, 1, 0, 1, 1, 0)},
		{api.Hint{Blocks: []api.Pairing{{Source: 5, Pairs: []api.Pair{{Reg: 7, Place: 2}, {Reg: 6, Place: 15}}}, {Source: 1}}}, text(84, 72, 2, 5, 2, 7, 2, 6, 15, 1, 0)},
		{api.Hint{Blocks: make([]api.Pairing, 6)}, text(84, 72, 6, 0, 0, 0, 0, 0, 0, 0, 0, 0, 0, 0, 0)},
	} {
		if s, e := twin.EncodeHint(c.h); s != c.s || e != api.OK {
			t.Errorf("EncodeHint(%+v) = %v, %d, want %v", c.h, []byte(s), e, []byte(c.s))
		}
		if h, e := twin.DecodeHint(c.s); !sameHint(h, c.h) || e != api.OK {
			t.Errorf("DecodeHint(%v) = %+v, %d, want %+v", []byte(c.s), h, e, c.h)
		}
	}
}

func TestP5Bounds(t *testing.T) {
	checkHint(t, some())
	checkHint(t, api.Hint{})
	checkHint(t, api.Hint{Blocks: []api.Pairing{}})
	for _, n := range []int{1, 2, 5, 6, 7, 255, 256, 257, 262, 100000} {
		checkHint(t, api.Hint{Blocks: make([]api.Pairing, n)})
	}
	for _, n := range []int{0, 1, 15, 16, 17, 255, 256, 257, 100000} {
		checkHint(t, api.Hint{Blocks: []api.Pairing{{Pairs: rising(n)}}})
		checkHint(t, api.Hint{Blocks: []api.Pairing{{}, {Pairs: rising(n)}}})
		checkHint(t, api.Hint{Blocks: []api.Pairing{{Pairs: make([]api.Pair, n)}}})
	}
	for _, v := range numbers() {
		for where := 0; where < 3; where++ {
			for field := 0; field < 3; field++ {
				h := api.Hint{Blocks: []api.Pairing{{Pairs: rising(1)}, {Pairs: rising(1)}, {Pairs: rising(1)}}}
				b := &h.Blocks[where]
				*[]*int{&b.Source, &b.Pairs[0].Reg, &b.Pairs[0].Place}[field] = v
				checkHint(t, h)
			}
		}
	}
}

// The places of a block rise; each block begins anew.
func TestP5Rising(t *testing.T) {
	for _, v := range numbers() {
		for _, w := range numbers() {
			checkHint(t, api.Hint{Blocks: []api.Pairing{{Pairs: []api.Pair{{Place: v}, {Place: w}}}}})
			checkHint(t, api.Hint{Blocks: []api.Pairing{{Pairs: []api.Pair{{Place: v}}}, {Pairs: []api.Pair{{Place: w}}}}})
		}
	}
	for i := 1; i < 16; i++ {
		l := rising(16)
		l[i].Place = l[i-1].Place
		checkHint(t, api.Hint{Blocks: []api.Pairing{{Pairs: l}}})
		l = rising(16)
		l[i].Place, l[i-1].Place = l[i-1].Place, l[i].Place
		checkHint(t, api.Hint{Blocks: []api.Pairing{{Pairs: l}}})
	}
}

func TestP5NoTexts(t *testing.T) {
	good := text(hintFields(some())...)
	for i := range good {
		refusedHint(t, good[:i])
		checkHintText(t, good[:i]+good[i+1:])
		checkHintText(t, good[:i]+"\x00"+good[i:])
		for v := 0; v < 256; v++ {
			checkHintText(t, good[:i]+text(v)+good[i+1:])
		}
	}
	for v := 0; v < 256; v++ {
		refusedHint(t, good+text(v))
		if v != 'T' {
			refusedHint(t, text(v)+good[1:])
		}
		if v != 'H' {
			refusedHint(t, text(84, v)+good[2:])
		}
	}
	for _, s := range []string{"", "T", "TH", "th" + good[2:], "TW" + good[2:], "TH\x00", good + good, good + strings.Repeat("\x00", 1000), strings.Repeat("T", 1000000), "TH" + strings.Repeat("\xff", 1000000), "TH" + strings.Repeat("\x01", 1000000)} {
		refusedHint(t, s)
	}
}

func TestP5ThereAndBack(t *testing.T) {
	r := rand.New(rand.NewSource(3))
	for n := 0; n < 5000; n++ {
		h := api.Hint{Blocks: make([]api.Pairing, 1+r.Intn(6))}
		for i := range h.Blocks {
			h.Blocks[i].Source = r.Intn(6)
			often := 1 + r.Intn(4)
			for place := 0; place < 16; place++ {
				if r.Intn(often) == 0 {
					h.Blocks[i].Pairs = append(h.Blocks[i].Pairs, api.Pair{Reg: r.Intn(8), Place: place})
				}
			}
		}
		if !wellMadeHint(h) {
			t.Fatalf("the test's own hint is not well made: %+v", h)
		}
		checkHint(t, h)
	}
}
