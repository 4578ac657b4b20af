package twin_test

import (
	"fmt"
	"math/rand"
	"slices"
	"strconv"
	"strings"

	"twin/api"
)

// signs: those of the kinds from Add to Div, in this order.
const signs = "+-*&|^<=/"

// kindOf: the kind of operation that a sign stands for.
func kindOf(sign string) int { return api.Add + strings.Index(signs, sign) }

// parts: the parts of a text in brackets, the sign first; none, if it is a number or a letter.
func parts(s string) []string {
	if s[0] != '(' {
		return nil
	}
	var l []string
	deep, from := 0, 1
	for i := 1; i < len(s); i++ {
		switch {
		case s[i] == '(':
			deep++
		case s[i] == ' ' && deep == 0, i == len(s)-1:
			l, from = append(l, s[from:i]), i+1
		case s[i] == ')':
			deep--
		}
	}
	return l
}

// code: a block that is written out, turned into operations: steps with ; between them, each of a form of
// `r4 = T`, `s0 = T` (a slot) and `[T] = T` (a cell), with terms T as P8 writes them, which are computed in their
// order by operations; but `s1` is what stands in slot 1 now, and `(@ m u)` reads the cells as they are now.
// Registers from 7 down are used on the way.
type code struct {
	ops  []api.Op
	free int
}

func written(steps string) []api.Op {
	c := &code{}
	for _, step := range strings.Split(steps, ";") {
		to, from, ok := strings.Cut(strings.TrimSpace(step), " = ")
		c.free = 7
		switch {
		case !ok && steps == "":
		case to[0] == '[':
			a := c.word(to[1:len(to)-1], -1)
			c.do(api.Store, a, c.word(from, -1), 0)
		case to[0] == 's':
			c.do(api.Put, after(to), c.word(from, -1), 0)
		default:
			c.word(from, after(to))
		}
	}
	return c.ops
}

// after: the number behind a letter.
func after(s string) int {
	n, err := strconv.Atoi(s[1:])
	if err != nil {
		panic("no letter with a number: " + s)
	}
	return n
}

func (c *code) do(kind, a, b, d int) { c.ops = append(c.ops, op(kind, a, b, d)) }

// word: the register that holds what a term says: register to, or, if that is -1, any.
func (c *code) word(s string, to int) int {
	if s[0] == 'r' && to < 0 {
		return after(s)
	}
	mark, p := c.free, parts(s)
	var of []int
	for i, u := range p {
		if i > 0 && u != "m" {
			of = append(of, c.word(u, -1))
		}
	}
	c.free = mark
	if to < 0 {
		to = c.free
		c.free--
	}
	switch {
	case s[0] == 'r':
		c.do(api.Move, to, after(s), 0)
	case s[0] == 's':
		c.do(api.Get, to, after(s), 0)
	case p == nil:
		c.number(s, to)
	case p[0] == "@":
		c.do(api.Load, to, of[0], 0)
	default:
		c.do(kindOf(p[0]), to, of[0], of[1])
	}
	return to
}

// number: a Const; beyond it, Consts that are multiplied.
func (c *code) number(s string, to int) {
	n, err := strconv.Atoi(s)
	if err != nil {
		panic("no number: " + s)
	}
	times := 0
	for ; !within(n, -32768, 32767); times++ {
		if n%32768 != 0 {
			panic("no Const makes " + s)
		}
		n /= -32768
	}
	c.do(api.Const, to, (n+32768)/256, (n+32768)%256)
	if times > 0 {
		c.do(api.Const, c.free, 0, 0)
	}
	for ; times > 0; times-- {
		c.do(api.Mul, to, to, c.free)
	}
}

// slot0, slot1 and cells are the places of the block that oneBlock makes, behind its registers 0 to 7.
const (
	slot0 = 8
	slot1 = 9
	cells = 10
)

// oneBlock: a program of 8 registers, 4 cells and 2 slots with one block, written out.
func oneBlock(steps string) string {
	return single(api.Prog{Regs: 8, Data: 4, Slots: 2}, 0, written(steps)...)
}

// What follows is P8 to P11 said once more, on texts alone.

// asNumber: the number that a text is, if it is one.
func asNumber(s string) (int, bool) {
	n, err := strconv.Atoi(s)
	return n, err == nil
}

// sizeOf: P8's size: a sign, or what is not in brackets, counts 1.
func sizeOf(s string) int {
	return len(strings.FieldsFunc(s, func(c rune) bool { return strings.ContainsRune("() ", c) }))
}

// plain: the text of parts in brackets.
func plain(l ...string) string { return "(" + strings.Join(l, " ") + ")" }

// madeOf: what is made of a sign and two words.
func madeOf(o, u, v string) string {
	n, left := asNumber(u)
	k, right := asNumber(v)
	if left && right && o+v != "/0" {
		return fmt.Sprint(given(kindOf(o), n, k))
	}
	if strings.Contains("+*&|^=", o) && (left || !right && v < u) {
		u, v, k, right = v, u, n, left
	}
	p := parts(u)
	switch {
	case o == "-" && right:
		return madeOf("+", u, fmt.Sprint(given(api.Sub, 0, k)))
	case o+v == "+0":
		return u
	case o == "+" && right && p != nil && p[0] == "+":
		if n, ok := asNumber(p[2]); ok {
			return madeOf("+", p[1], fmt.Sprint(given(api.Add, n, k)))
		}
	case slices.Contains([]string{"*0", "&0", "|-1"}, o+v):
		return v
	case slices.Contains([]string{"*1", "&-1", "|0", "^0", "/1"}, o+v):
		return u
	case u == v && strings.Contains("-^<", o):
		return "0"
	case u == v && strings.Contains("&|", o):
		return u
	case u == v && o == "=":
		return "1"
	case o == "=" && areApart(u, v):
		return "0"
	}
	return plain(o, u, v)
}

// areApart: are two words apart?
func areApart(u, v string) bool {
	var thing [2]string
	var number [2]int
	for i, s := range []string{u, v} {
		thing[i] = s
		if n, ok := asNumber(s); ok {
			thing[i], number[i] = "nothing", n
		}
		if p := parts(s); p != nil && p[0] == "+" {
			if k, ok := asNumber(p[2]); ok {
				thing[i], number[i] = p[1], k
			}
		}
	}
	return thing[0] == thing[1] && number[0] != number[1]
}

// readOf: what is read of cells m and a word u.
func readOf(m, u string) string {
	p := parts(m)
	switch {
	case p != nil && p[2] == u:
		return p[3]
	case p != nil && areApart(p[2], u):
		return readOf(p[1], u)
	}
	return plain("@", m, u)
}

// writtenOf: what is written of cells m and words u, v. The stores are taken off one by one, and laid on again.
func writtenOf(m, u, v string) string {
	if readOf(m, u) == v {
		return m
	}
	left := m
	var above [][]string
	for p := parts(m); p != nil; p = parts(p[1]) {
		if p[2] == u {
			left = p[1]
			for _, q := range slices.Backward(above) {
				left = plain("!", left, q[2], q[3])
			}
			break
		}
		if !areApart(p[2], u) {
			break
		}
		above = append(above, p)
	}
	above = nil
	n, isNumber := asNumber(u)
	for p := parts(left); p != nil; p = parts(left) {
		if a, ok := asNumber(p[2]); !ok || !isNumber || a <= n {
			break
		}
		above, left = append(above, p), p[1]
	}
	left = plain("!", left, u, v)
	for _, q := range slices.Backward(above) {
		left = plain("!", left, q[2], q[3])
	}
	return left
}

// computes: what stands in every place of a block at its end, the cells last; its marks; and whether it is big.
func computes(p api.Prog, block int) (places []string, marks []string, big bool) {
	var begin []string
	for i := 0; i < p.Regs; i++ {
		begin = append(begin, fmt.Sprint("r", i))
	}
	for i := 0; i < p.Slots; i++ {
		begin = append(begin, fmt.Sprint("x", p.Regs+i))
	}
	return computesFrom(p, block, begin)
}

// computesFrom: the same, for a block whose places begin with these texts.
func computesFrom(p api.Prog, block int, begin []string) (places []string, marks []string, big bool) {
	places = slices.Clone(begin)
	m := "m"
	mark := func(text string, known bool) {
		if !known && !slices.Contains(marks, text) {
			marks = append(marks, text)
		}
	}
	cell := func(u string) {
		n, ok := asNumber(u)
		mark("@ "+u, ok && within(n, 0, p.Data-1))
	}
	for _, o := range p.Blocks[block].Ops {
		now := slices.Clone(places)
		switch o.Kind {
		case api.Const:
			places[o.A] = fmt.Sprint(256*o.B + o.C - 32768)
		case api.Move:
			places[o.A] = now[o.B]
		case api.Put:
			places[p.Regs+o.A] = now[o.B]
		case api.Get:
			places[o.A] = now[p.Regs+o.B]
		case api.Load:
			cell(now[o.B])
			places[o.A] = readOf(m, now[o.B])
			big = big || sizeOf(places[o.A]) > 4095
		case api.Store:
			cell(now[o.A])
			m = writtenOf(m, now[o.A], now[o.B])
			big = big || sizeOf(m) > 4095
		default:
			if o.Kind == api.Div {
				_, left := asNumber(now[o.B])
				k, right := asNumber(now[o.C])
				mark("/ "+now[o.B]+" "+now[o.C], left && right && k != 0)
			}
			places[o.A] = madeOf(string(signs[o.Kind-3]), now[o.B], now[o.C])
			big = big || sizeOf(places[o.A]) > 4095
		}
		if big {
			return nil, nil, true
		}
	}
	return append(places, m), marks, false
}

// anyBlock: a block's operations over few registers, slots and numbers, so that terms come out the same, apart and
// in each other's way often; at times over one register that grows, so that the block comes near to being big.
func anyBlock(r *rand.Rand, p api.Prog) []api.Op {
	var l []api.Op
	numbers := []int{0, 1, 2, 3, -1, -2, 8, -32768, 32767, r.Intn(12) - 4}
	count, growing := r.Intn(13), r.Intn(12) == 0
	if growing {
		count = 12
	}
	for k := count; k > 0; k-- {
		kind := 1 + r.Intn(15)
		if r.Intn(3) == 0 {
			kind = []int{api.Const, api.Add, api.Sub, api.Load, api.Store, api.Store}[r.Intn(6)]
		}
		if p.Slots == 0 && kind >= api.Put {
			kind = api.Const
		}
		o := op(kind, r.Intn(p.Regs), r.Intn(p.Regs), r.Intn(p.Regs))
		if growing && r.Intn(12) > 0 {
			o = op([]int{api.Mul, api.Add, api.Mul, api.Div, api.Store}[r.Intn(5)], 0, 0, 0)
		}
		switch o.Kind {
		case api.Const:
			n := numbers[r.Intn(len(numbers))] + 32768
			o.B, o.C = n/256, n%256
		case api.Move, api.Load, api.Store:
			o.C = 0
		case api.Put:
			o.A, o.C = r.Intn(p.Slots), 0
		case api.Get:
			o.B, o.C = r.Intn(p.Slots), 0
		}
		l = append(l, o)
	}
	return l
}

// anyBlocks: a program of blocks as anyBlock makes them.
func anyBlocks(r *rand.Rand) api.Prog {
	p := api.Prog{Regs: 1 + r.Intn(5), Data: r.Intn(9), Slots: r.Intn(3), Blocks: halts(1 + r.Intn(3))}
	p.Args = r.Intn(p.Regs + 1)
	for i := range p.Blocks {
		p.Blocks[i].Ops = anyBlock(r, p)
	}
	return p
}
