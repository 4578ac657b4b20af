package twin_test

import (
	"fmt"
	"math"
	"math/rand"
	"strings"
	"testing"

	"twin/api"
	"twin/twin"
)

// tells: does Term answer this text?
func tells(t *testing.T, s string, block, place int, want string) {
	t.Helper()
	if got, e := twin.Term(s, block, place); got != want || e != api.OK {
		t.Errorf("Term(%v, %d, %d) = %.300q, %d, want %.300q", []byte(s), block, place, got, e, want)
	}
}

// tellsNot: does Term answer this error, and nothing else?
func tellsNot(t *testing.T, s string, block, place int, want api.Errno) {
	t.Helper()
	if got, e := twin.Term(s, block, place); got != "" || e != want {
		t.Errorf("Term(%.60q, %d, %d) = %.60q, %d, want the error %d", s, block, place, got, e, want)
	}
}

// becomes: is this what a term, computed by operations, is made into?
func becomes(t *testing.T, term, want string) {
	t.Helper()
	if got, e := twin.Term(oneBlock("r4 = "+term), 0, 4); got != want || e != api.OK {
		t.Errorf("of %s is made %q, %d, want %s", term, got, e, want)
	}
}

// leaves: are these the cells, once the steps are done?
func leaves(t *testing.T, steps, want string) {
	t.Helper()
	if got, e := twin.Term(oneBlock(steps), 0, cells); got != want || e != api.OK {
		t.Errorf("%s leaves the cells %q, %d, want %s", steps, got, e, want)
	}
}

// reads: is this in register 4, once the steps are done?
func reads(t *testing.T, steps, want string) {
	t.Helper()
	if got, e := twin.Term(oneBlock(steps), 0, 4); got != want || e != api.OK {
		t.Errorf("%s reads %q, %d, want %s", steps, got, e, want)
	}
}

func TestP8Examples(t *testing.T) {
	tells(t, double, 0, 1, "(+ r0 r0)")
	tells(t, double, 0, 0, "r0")
	tells(t, also, 0, 0, "(+ r0 r0)")
	tells(t, also, 0, 1, "r0")
	tells(t, count, 0, 0, "(+ r0 -1)")
	tells(t, count, 0, 1, "1")
	tells(t, count, 0, 2, "m")
	tells(t, count, 1, 0, "r0")
	tells(t, cell, 0, 2, "r1")
	tells(t, cell, 0, 3, "(! m r0 r1)")
	tells(t, over, 0, 0, "(/ r0 r1)")
	tells(t, swap, 0, 0, "x2")
	tells(t, swap, 0, 1, "x3")
	tells(t, swap, 0, 2, "x2")
	tells(t, swap, 0, 3, "r0")
	tells(t, forever, 0, 0, "r0")
	tells(t, forever, 0, 1, "m")
}

// Every place of a block that does nothing, for every count of registers and slots, and whatever Args and Data are.
func TestP8Letters(t *testing.T) {
	for regs := 1; regs <= 8; regs++ {
		for slots := 0; slots <= 8; slots++ {
			for _, args := range []int{0, regs} {
				s := single(api.Prog{Args: args, Regs: regs, Data: slots, Slots: slots}, 0)
				for i := 0; i < regs; i++ {
					tells(t, s, 0, i, fmt.Sprintf("r%d", i))
				}
				for i := regs; i < regs+slots; i++ {
					tells(t, s, 0, i, fmt.Sprintf("x%d", i))
				}
				tells(t, s, 0, regs+slots, "m")
			}
		}
	}
}

// Numbers: all that a Const gives, and some that it does not give.
func TestP8Numbers(t *testing.T) {
	for b := 0; b < 256; b++ {
		for c := 0; c < 256; c++ {
			tells(t, single(api.Prog{Regs: 1}, 0, op(api.Const, 0, b, c)), 0, 0, fmt.Sprint(b<<8+c-1<<15))
		}
	}
	becomes(t, "0", "0")
	becomes(t, "-1", "-1")
	becomes(t, "-32768", "-32768")
	becomes(t, "32767", "32767")
	becomes(t, "(+ 32767 1)", "32768")
	becomes(t, "-4611686018427387904", "-4611686018427387904")
	becomes(t, "-9223372036854775808", "-9223372036854775808")
	becomes(t, "(- -9223372036854775808 1)", "9223372036854775807")
	becomes(t, "(* 32767 32767)", "1073676289")
}

// Every form of a term: each sign, of words of each form.
func TestP8Forms(t *testing.T) {
	for _, o := range signs {
		becomes(t, fmt.Sprintf("(%c r0 r1)", o), fmt.Sprintf("(%c r0 r1)", o))
		becomes(t, fmt.Sprintf("(%c r1 s0)", o), fmt.Sprintf("(%c r1 x8)", o))
		becomes(t, fmt.Sprintf("(%c (@ m r2) s1)", o), fmt.Sprintf("(%c (@ m r2) x9)", o))
		becomes(t, fmt.Sprintf("(%c (/ r1 -7) (< 3 r0))", o), fmt.Sprintf("(%c (/ r1 -7) (< 3 r0))", o))
	}
	becomes(t, "(@ m r3)", "(@ m r3)")
	becomes(t, "(@ m -7)", "(@ m -7)")
	becomes(t, "(@ m (@ m (* r0 s1)))", "(@ m (@ m (* r0 x9)))")
	reads(t, "[r0] = r1; [(@ m r2)] = -5; r4 = (@ m r3)", "(@ (! (! m r0 r1) (@ (! m r0 r1) r2) -5) r3)")
	leaves(t, "", "m")
	leaves(t, "[s0] = (- 0 s1)", "(! m x8 (- 0 x9))")
	leaves(t, "[7] = 8; [r3] = (@ m r3)", "(! m 7 8)")
	leaves(t, "[7] = 8; [r3] = (@ m r2)", "(! (! m 7 8) r3 (@ (! m 7 8) r2))")
}

// The examples of the document, under 'What is made'.
func TestP9Examples(t *testing.T) {
	becomes(t, "(+ 5 r0)", "(+ r0 5)")
	becomes(t, "(* r1 r0)", "(* r0 r1)")
	becomes(t, "(+ (+ r0 5) -5)", "r0")
	becomes(t, "(- 5 r0)", "(- 5 r0)")
	becomes(t, "(= (+ r0 1) r0)", "0")
	becomes(t, "(/ 7 0)", "(/ 7 0)")
	reads(t, "[r0] = r1; [(+ r0 1)] = r2; r4 = (@ m r0)", "r1")
	reads(t, "[r1] = r2; r4 = (@ m r0)", "(@ (! m r1 r2) r0)")
	leaves(t, "[2] = r0; [1] = r1", "(! (! m 1 r1) 2 r0)")
	leaves(t, "[r0] = r1; [(+ r0 1)] = r2; [r0] = r3", "(! (! m (+ r0 1) r2) r0 r3)")
	leaves(t, "[r0] = (@ m r0)", "m")
}

// Rule (1): every sign of every two numbers that are tried, /, 0 alone left out.
func TestP9BothNumbers(t *testing.T) {
	tried := []int{-32768, -32767, -256, -7, -3, -2, -1, 0, 1, 2, 3, 7, 8, 255, 256, 32767}
	for _, o := range signs {
		for _, x := range tried {
			for _, y := range tried {
				term := fmt.Sprintf("(%c %d %d)", o, x, y)
				if o == '/' && y == 0 {
					becomes(t, term, term)
				} else {
					becomes(t, term, fmt.Sprint(given(kindOf(string(o)), x, y)))
				}
			}
		}
	}
	becomes(t, "(/ -7 2)", "-3")
	becomes(t, "(/ 7 -2)", "-3")
	becomes(t, "(/ 0 5)", "0")
	becomes(t, "(/ 0 0)", "(/ 0 0)")
	becomes(t, "(< -1 0)", "1")
	becomes(t, "(< 0 -1)", "0")
}

// Rule (1) at the edges of the words' range. Register 5 is -2^63, register 6 is 2^63 - 1.
func TestP9NumbersBeyond(t *testing.T) {
	least, greatest := fmt.Sprint(math.MinInt), fmt.Sprint(math.MaxInt)
	for _, c := range []struct{ term, want string }{
		{"(+ r6 r6)", "-2"}, {"(+ r5 r5)", "0"}, {"(+ r5 r6)", "-1"}, {"(- r5 r6)", "1"}, {"(- r6 r5)", "-1"}, {"(* r5 r5)", "0"}, {"(* r6 r6)", "1"}, {"(* r5 r6)", least},
		{"(& r5 r6)", "0"}, {"(| r5 r6)", "-1"}, {"(^ r6 r5)", "-1"}, {"(< r5 r6)", "1"}, {"(< r6 r5)", "0"}, {"(= r5 r6)", "0"}, {"(= r5 r5)", "1"}, {"(/ r5 r6)", "-1"}, {"(/ r6 r5)", "0"}, {"(/ r5 r5)", "1"},
		{"(+ r6 1)", least}, {"(- r5 1)", greatest}, {"(- 0 r5)", least}, {"(- 0 r6)", "-9223372036854775807"}, {"(* r5 -1)", least}, {"(* r6 2)", "-2"}, {"(/ r5 -1)", least}, {"(/ r6 -1)", "-9223372036854775807"}, {"(/ r5 1)", least},
		{"(/ r5 0)", "(/ " + least + " 0)"}, {"(/ 0 r5)", "0"}, {"(/ r6 0)", "(/ " + greatest + " 0)"},
	} {
		reads(t, "r5 = "+least+"; r6 = (- r5 1); r4 = "+c.term, c.want)
	}
}

// Rule (2): for + * & | ^ = a number goes to the right, and of two that are no numbers the text that is above; for - < / all stays.
func TestP9ChangeOfPlaces(t *testing.T) {
	for _, o := range signs {
		changes := strings.ContainsRune("+*&|^=", o)
		for _, c := range [][2]string{
			{"r0", "5"}, {"r0", "-5"}, {"(@ m r0)", "5"}, {"(/ 7 0)", "5"}, {"(* r0 r1)", "-3"}, {"(- 5 r0)", "2"}, // by number, whatever the texts are
			{"r0", "r1"}, {"r2", "r3"}, {"r3", "x8"}, {"x8", "x9"}, // by text
			{"(* r0 r1)", "r0"}, {"(@ m r3)", "r0"}, {"(/ 7 0)", "r0"}, // a bracket is below a letter
			{"(& r0 r1)", "(* r0 r1)"}, {"(* r0 r1)", "(- r0 r1)"}, {"(- r0 r1)", "(/ r0 r1)"}, {"(/ r0 r1)", "(< r0 r1)"}, {"(< r0 r1)", "(= r0 r1)"}, {"(= r0 r1)", "(@ m r0)"}, {"(@ m r0)", "(^ r0 r1)"}, {"(^ r0 r1)", "(| r0 r1)"},
			{"(* r0 10)", "(* r0 9)"}, {"(* r0 -9)", "(* r0 9)"}, {"(* r0 2)", "(* r0 20)"}, {"(* r0 -1)", "(* r0 -2)"}, // digits are compared as texts
			{"(- r0 (- r0 r1))", "(- r0 r1)"}, {"(- (- r2 r3) r0)", "(- r0 r1)"}, {"(< r0 r1)", "(< r0 r2)"}, {"(< r0 r3)", "(< r1 r0)"}, // a shorter text is not always below
		} {
			slots := strings.NewReplacer("x8", "s0", "x9", "s1")
			inOrder, crossed := fmt.Sprintf("(%c %s %s)", o, c[0], c[1]), fmt.Sprintf("(%c %s %s)", o, c[1], c[0])
			if _, right := asNumber(c[1]); o != '-' || !right { // that is another rule's
				becomes(t, slots.Replace(inOrder), inOrder)
			}
			if changes {
				becomes(t, slots.Replace(crossed), inOrder)
			} else {
				becomes(t, slots.Replace(crossed), crossed)
			}
		}
	}
}

// Rule (3), the rows with a number: each sign with each number on the right that a row names, and its neighbours.
func TestP9Rows(t *testing.T) {
	rows := map[string]map[int]string{
		"+": {0: "r0"},
		"-": {0: "r0", 1: "(+ r0 -1)", -1: "(+ r0 1)", 2: "(+ r0 -2)", -2: "(+ r0 2)"},
		"*": {0: "0", 1: "r0"},
		"&": {0: "0", -1: "r0"},
		"|": {0: "r0", -1: "-1"},
		"^": {0: "r0"},
		"<": {},
		"=": {},
		"/": {1: "r0"},
	}
	for _, c := range signs {
		o := string(c)
		for n := -2; n <= 2; n++ {
			want, ok := rows[o][n]
			if !ok {
				want = fmt.Sprintf("(%s r0 %d)", o, n)
			}
			becomes(t, fmt.Sprintf("(%s r0 %d)", o, n), want)
			if strings.Contains("-</", o) {
				want = fmt.Sprintf("(%s %d r0)", o, n)
			}
			becomes(t, fmt.Sprintf("(%s %d r0)", o, n), want)
		}
		becomes(t, fmt.Sprintf("(%s (/ 7 0) 0)", o), strings.ReplaceAll(with(rows[o][0], fmt.Sprintf("(%s r0 0)", o)), "r0", "(/ 7 0)"))
		becomes(t, fmt.Sprintf("(%s (@ m r1) 1)", o), strings.ReplaceAll(with(rows[o][1], fmt.Sprintf("(%s r0 1)", o)), "r0", "(@ m r1)"))
		becomes(t, fmt.Sprintf("(%s (< r1 r2) -1)", o), strings.ReplaceAll(with(rows[o][-1], fmt.Sprintf("(%s r0 -1)", o)), "r0", "(< r1 r2)"))
	}
}

// with: the first of the two that there is.
func with(a, b string) string {
	if a == "" {
		return b
	}
	return a
}

// Rule (3): sums and differences with numbers, taken together where they stand one on the other, and only there.
func TestP9Sums(t *testing.T) {
	for _, c := range [][2]string{
		{"(+ (+ r0 5) 3)", "(+ r0 8)"}, {"(+ 3 (+ r0 5))", "(+ r0 8)"}, {"(+ 3 (+ 5 r0))", "(+ r0 8)"}, {"(+ (+ r0 5) -3)", "(+ r0 2)"}, {"(+ (+ r0 5) -6)", "(+ r0 -1)"}, {"(+ (+ r0 5) -5)", "r0"}, {"(+ (+ r0 5) 0)", "(+ r0 5)"},
		{"(- (+ r0 5) 3)", "(+ r0 2)"}, {"(- (+ r0 5) 5)", "r0"}, {"(- (+ r0 5) -5)", "(+ r0 10)"}, {"(- (- r0 5) 3)", "(+ r0 -8)"}, {"(- (- r0 5) -5)", "r0"}, {"(- r0 0)", "r0"}, {"(- (- r0 0) 0)", "r0"},
		{"(+ (+ (+ (+ r0 1) 2) 3) 4)", "(+ r0 10)"}, {"(+ (+ r0 r1) 5)", "(+ (+ r0 r1) 5)"}, {"(+ (+ (+ r0 r1) 5) 6)", "(+ (+ r0 r1) 11)"}, {"(- (+ (+ r0 r1) 5) 5)", "(+ r0 r1)"}, {"(+ (+ (/ 7 0) 5) 6)", "(+ (/ 7 0) 11)"}, {"(- (/ 7 0) 5)", "(+ (/ 7 0) -5)"},
		// just not: another sign inside or outside, a number on the left, a word on the right
		{"(+ (- 5 r0) 3)", "(+ (- 5 r0) 3)"}, {"(- 3 (+ r0 5))", "(- 3 (+ r0 5))"}, {"(+ (* r0 5) 3)", "(+ (* r0 5) 3)"}, {"(+ (| r0 5) 3)", "(+ (| r0 5) 3)"}, {"(* (+ r0 5) 3)", "(* (+ r0 5) 3)"}, {"(* (* r0 5) 3)", "(* (* r0 5) 3)"}, {"(& (& r0 5) 3)", "(& (& r0 5) 3)"}, {"(| (+ r0 5) 3)", "(| (+ r0 5) 3)"}, {"(^ (^ r0 5) 5)", "(^ (^ r0 5) 5)"},
		{"(+ (+ r0 5) r1)", "(+ (+ r0 5) r1)"}, {"(+ r1 (+ r0 5))", "(+ (+ r0 5) r1)"}, {"(+ (+ r0 5) (+ r0 5))", "(+ (+ r0 5) (+ r0 5))"}, {"(+ (+ r0 5) (+ r1 5))", "(+ (+ r0 5) (+ r1 5))"}, {"(- (+ r0 5) r0)", "(- (+ r0 5) r0)"}, {"(- r0 r1)", "(- r0 r1)"}, {"(- 0 r0)", "(- 0 r0)"}, {"(- 0 (- 0 r0))", "(- 0 (- 0 r0))"}, {"(+ (+ r0 r1) (+ r0 r1))", "(+ (+ r0 r1) (+ r0 r1))"},
	} {
		becomes(t, c[0], c[1])
	}
}

// Sums and constants beyond the range of a word. Register 5 is -2^63, register 6 is 2^63 - 1.
func TestP9SumsBeyond(t *testing.T) {
	for _, c := range [][2]string{
		{"(- r0 r5)", "(+ r0 -9223372036854775808)"}, {"(- r0 r6)", "(+ r0 -9223372036854775807)"}, {"(+ (+ r0 r6) 1)", "(+ r0 -9223372036854775808)"}, {"(+ (+ r0 r5) -1)", "(+ r0 9223372036854775807)"}, {"(+ (+ r0 r5) r5)", "r0"}, {"(- (+ r0 r5) r5)", "r0"},
		{"(- (+ r0 r6) r5)", "(+ r0 -1)"}, {"(+ (+ r0 r6) r6)", "(+ r0 -2)"}, {"(+ (- r0 r5) r6)", "(+ r0 -1)"}, {"(= (+ r0 r5) r0)", "0"}, {"(= (+ r0 r5) (- r0 r5))", "1"}, {"(= (+ r0 r5) (+ r0 r6))", "0"}, {"(- r5 r0)", "(- -9223372036854775808 r0)"},
	} {
		reads(t, "r5 = -9223372036854775808; r6 = (- r5 1); r4 = "+c[0], c[1])
	}
}

// Rule (3), the same on both sides, by text; and just not the same.
func TestP9Same(t *testing.T) {
	rows := map[string]string{"-": "0", "^": "0", "<": "0", "&": "u", "|": "u", "=": "1"}
	for _, c := range signs {
		o := string(c)
		for _, u := range []string{"r0", "r3", "(@ m r0)", "(* r0 r1)", "(+ r0 5)", "(/ 7 0)", "(< 3 r0)"} {
			want := strings.ReplaceAll(with(rows[o], fmt.Sprintf("(%s u u)", o)), "u", u)
			becomes(t, fmt.Sprintf("(%s %s %s)", o, u, u), want)
		}
		becomes(t, fmt.Sprintf("(%s (* r0 r1) (* r1 r0))", o), strings.ReplaceAll(with(rows[o], fmt.Sprintf("(%s u u)", o)), "u", "(* r0 r1)"))
		becomes(t, fmt.Sprintf("(%s (< r0 r1) (< r1 r0))", o), fmt.Sprintf("(%s (< r0 r1) (< r1 r0))", o))
		becomes(t, fmt.Sprintf("(%s (@ m r0) (@ m r1))", o), fmt.Sprintf("(%s (@ m r0) (@ m r1))", o))
	}
	// read before a store and after it
	reads(t, "r5 = (@ m r0); [r1] = r2; r4 = (- r5 (@ m r0))", "(- (@ m r0) (@ (! m r1 r2) r0))")
	reads(t, "r5 = (@ m r0); [(+ r0 1)] = r2; r4 = (- r5 (@ m r0))", "0")
}

// Rule (3), = of words that are apart, and that are not; no other sign looks at it.
func TestP9Apart(t *testing.T) {
	apart := [][2]string{{"(+ r0 1)", "r0"}, {"(+ r0 -1)", "r0"}, {"(+ r0 1)", "(+ r0 2)"}, {"(+ r0 -1)", "(+ r0 1)"}, {"(+ (+ r0 r1) 1)", "(+ r0 r1)"}, {"(+ (@ m r0) 1)", "(+ (@ m r0) 2)"}, {"(+ (/ 7 0) 1)", "(/ 7 0)"}, {"(* r0 r1)", "(+ (* r0 r1) 4)"}}
	for _, c := range apart {
		becomes(t, "(= "+c[0]+" "+c[1]+")", "0")
		becomes(t, "(= "+c[1]+" "+c[0]+")", "0")
		for _, o := range []string{"+", "*", "&", "|", "^"} {
			becomes(t, "("+o+" "+c[1]+" "+c[0]+")", "("+o+" "+c[0]+" "+c[1]+")")
		}
		for _, o := range []string{"-", "<", "/"} {
			becomes(t, "("+o+" "+c[1]+" "+c[0]+")", "("+o+" "+c[1]+" "+c[0]+")")
		}
	}
	for _, c := range [][2]string{{"r0", "r1"}, {"(+ r0 1)", "r1"}, {"(+ r0 1)", "(+ r1 1)"}, {"(+ r0 1)", "(+ r1 2)"}, {"r0", "5"}, {"(+ r0 5)", "5"}, {"(+ r0 5)", "6"}, {"(+ r0 r1)", "r0"}, {"(+ r0 r1)", "(+ r0 r2)"}, {"(- r0 r1)", "r0"}, {"(* r0 2)", "r0"}, {"(* r0 2)", "(* r0 3)"}, {"(- 1 r0)", "(- 2 r0)"}, {"(^ r0 1)", "r0"}, {"(| r0 1)", "(| r0 2)"}, {"(/ 7 0)", "7"}, {"(/ 7 0)", "(/ 8 0)"}, {"(/ r0 2)", "r0"}, {"(@ m 1)", "(@ m 2)"}, {"(@ m r0)", "r0"}} {
		becomes(t, "(= "+c[0]+" "+c[1]+")", "(= "+c[0]+" "+c[1]+")")
		becomes(t, "(= "+c[1]+" "+c[0]+")", "(= "+c[0]+" "+c[1]+")")
	}
}

// Read: through stores at what is apart, off a store at the same, and no further than one at what is neither.
func TestP9Read(t *testing.T) {
	for _, c := range [][2]string{
		{"r4 = (@ m r0)", "(@ m r0)"}, {"r4 = (@ m 1)", "(@ m 1)"}, {"r4 = (@ m 9)", "(@ m 9)"}, {"r4 = (@ m -1)", "(@ m -1)"},
		{"[r0] = r1; r4 = (@ m r0)", "r1"}, {"[1] = r1; r4 = (@ m 1)", "r1"}, {"[(* r0 r1)] = r2; r4 = (@ m (* r1 r0))", "r2"}, {"[r0] = 7; r4 = (@ m r0)", "7"}, {"[9] = r1; r4 = (@ m 9)", "r1"},
		{"[1] = r1; r4 = (@ m 2)", "(@ m 2)"}, {"[(+ r0 1)] = r1; r4 = (@ m r0)", "(@ m r0)"}, {"[r0] = r1; r4 = (@ m (+ r0 1))", "(@ m (+ r0 1))"}, {"[(+ r0 2)] = r1; r4 = (@ m (+ r0 1))", "(@ m (+ r0 1))"},
		{"[r1] = r2; r4 = (@ m r0)", "(@ (! m r1 r2) r0)"}, {"[1] = r2; r4 = (@ m r0)", "(@ (! m 1 r2) r0)"}, {"[r0] = r2; r4 = (@ m 1)", "(@ (! m r0 r2) 1)"}, {"[(+ r0 1)] = r2; r4 = (@ m 1)", "(@ (! m (+ r0 1) r2) 1)"}, {"[(+ r0 1)] = r2; r4 = (@ m (+ r1 2))", "(@ (! m (+ r0 1) r2) (+ r1 2))"},
		{"[r0] = r1; [(+ r0 1)] = r2; r4 = (@ m r0)", "r1"}, {"[r0] = r1; [(+ r0 1)] = r2; [(+ r0 2)] = r3; r4 = (@ m r0)", "r1"}, {"[1] = r1; [2] = r2; [3] = r3; r4 = (@ m 1)", "r1"}, {"[1] = r1; [2] = r2; [3] = r3; r4 = (@ m 0)", "(@ m 0)"},
		{"[r1] = r2; [(+ r0 1)] = r3; r4 = (@ m r0)", "(@ (! m r1 r2) r0)"}, {"[(+ r0 1)] = r3; [r1] = r2; r4 = (@ m r0)", "(@ (! (! m (+ r0 1) r3) r1 r2) r0)"}, {"[r0] = r3; [r1] = r2; r4 = (@ m r0)", "(@ (! (! m r0 r3) r1 r2) r0)"},
		{"[r0] = r1; [r2] = r3; [(+ r0 1)] = r2; r4 = (@ m r0)", "(@ (! (! m r0 r1) r2 r3) r0)"},
		{"[r0] = r1; r4 = (@ m (@ m r0))", "(@ (! m r0 r1) r1)"}, {"[r0] = r0; r4 = (@ m (@ m r0))", "r0"},
	} {
		reads(t, c[0], c[1])
	}
}

// Written, (1): what stands there already changes nothing, not the order of the stores either.
func TestP9WrittenAlready(t *testing.T) {
	for _, c := range [][2]string{
		{"[r0] = (@ m r0)", "m"}, {"[1] = (@ m 1)", "m"}, {"[-1] = (@ m -1)", "m"}, {"[r0] = (@ m r1)", "(! m r0 (@ m r1))"}, {"[r0] = r0", "(! m r0 r0)"},
		{"[r0] = r1; [r0] = r1", "(! m r0 r1)"}, {"[r0] = r1; [r0] = (@ m r0)", "(! m r0 r1)"}, {"[r0] = (* r1 r2); [r0] = (* r2 r1)", "(! m r0 (* r1 r2))"}, {"[r0] = 5; [r0] = 5", "(! m r0 5)"},
		{"[r0] = r1; [(+ r0 1)] = r2; [r0] = r1", "(! (! m r0 r1) (+ r0 1) r2)"}, {"[(+ r0 1)] = r2; [r0] = (@ m r0)", "(! m (+ r0 1) r2)"}, {"r4 = (@ m r0); [(+ r0 1)] = r2; [r0] = r4", "(! m (+ r0 1) r2)"}, {"[r1] = r2; [r0] = (@ m r0)", "(! m r1 r2)"},
		// just not: what was read of other cells, or lies under a store at what is neither the same nor apart
		{"r4 = (@ m r0); [r1] = r2; [r0] = r4", "(! (! m r1 r2) r0 (@ m r0))"}, {"r4 = (@ m r0); [r0] = r1; [r0] = r4", "(! m r0 (@ m r0))"}, {"[r0] = r1; [r2] = r3; [r0] = r1", "(! (! (! m r0 r1) r2 r3) r0 r1)"}, {"[1] = r1; [r2] = r3; [1] = r1", "(! (! (! m 1 r1) r2 r3) 1 r1)"},
	} {
		leaves(t, c[0], c[1])
	}
}

// Written, (2): an earlier store is taken out where it can be seen.
func TestP9WrittenAgain(t *testing.T) {
	for _, c := range [][2]string{
		{"[r0] = r1; [r0] = r2", "(! m r0 r2)"}, {"[1] = r1; [1] = r2", "(! m 1 r2)"}, {"[(+ r0 1)] = r1; [(+ 1 r0)] = r2", "(! m (+ r0 1) r2)"}, {"[r0] = r1; [r0] = r2; [r0] = r3", "(! m r0 r3)"}, {"[r0] = 1; [r0] = 2", "(! m r0 2)"},
		{"[r0] = r1; [(+ r0 1)] = r2; [r0] = r3", "(! (! m (+ r0 1) r2) r0 r3)"}, {"[r0] = r1; [(+ r0 1)] = r2; [(+ r0 2)] = r3; [r0] = r2", "(! (! (! m (+ r0 1) r2) (+ r0 2) r3) r0 r2)"}, {"[r0] = r1; [(+ r0 1)] = r2; [(+ r0 2)] = r3; [(+ r0 1)] = r1", "(! (! (! m r0 r1) (+ r0 2) r3) (+ r0 1) r1)"},
		{"[r1] = r1; [r0] = r1; [r0] = r2", "(! (! m r1 r1) r0 r2)"}, {"[r1] = r1; [r0] = r1; [(+ r0 1)] = r2; [r0] = r3", "(! (! (! m r1 r1) (+ r0 1) r2) r0 r3)"},
		// just not: under a store at what is neither
		{"[r0] = r1; [r2] = r3; [r0] = r2", "(! (! (! m r0 r1) r2 r3) r0 r2)"}, {"[r0] = r1; [2] = r3; [r0] = r2", "(! (! (! m r0 r1) 2 r3) r0 r2)"}, {"[1] = r1; [r2] = r3; [1] = r2", "(! (! (! m 1 r1) r2 r3) 1 r2)"}, {"[r0] = r1; [r2] = r3; [(+ r0 1)] = r3; [r0] = r2", "(! (! (! (! m r0 r1) r2 r3) (+ r0 1) r3) r0 r2)"},
		// one alone is taken out, the uppermost
		{"[r0] = r1; [r2] = r3; [r0] = r2; [r0] = r3", "(! (! (! m r0 r1) r2 r3) r0 r3)"},
		// not even what was read there before is known again
		{"r4 = (@ m r0); [r0] = r1; [r0] = r4; [r0] = r2", "(! m r0 r2)"},
	} {
		leaves(t, c[0], c[1])
	}
}

// Written, (3): stores at numbers come out in the order of the numbers, as far as nothing else lies between.
func TestP9WrittenInOrder(t *testing.T) {
	for _, c := range [][2]string{
		{"[2] = r0; [1] = r1", "(! (! m 1 r1) 2 r0)"}, {"[1] = r1; [2] = r0", "(! (! m 1 r1) 2 r0)"}, {"[3] = r0; [-3] = r1", "(! (! m -3 r1) 3 r0)"}, {"[9] = r0; [10] = r1", "(! (! m 9 r0) 10 r1)"}, {"[10] = r1; [9] = r0", "(! (! m 9 r0) 10 r1)"}, {"[-2] = r0; [-1] = r1", "(! (! m -2 r0) -1 r1)"}, {"[-1] = r1; [-2] = r0", "(! (! m -2 r0) -1 r1)"},
		{"[3] = r3; [2] = r2; [1] = r1", "(! (! (! m 1 r1) 2 r2) 3 r3)"}, {"[1] = r1; [3] = r3; [2] = r2", "(! (! (! m 1 r1) 2 r2) 3 r3)"}, {"[3] = r3; [1] = r1; [2] = r2", "(! (! (! m 1 r1) 2 r2) 3 r3)"}, {"[2] = r2; [3] = r3; [1] = r1", "(! (! (! m 1 r1) 2 r2) 3 r3)"}, {"[2] = r2; [1] = r1; [3] = r3", "(! (! (! m 1 r1) 2 r2) 3 r3)"},
		{"[1] = r0; [2] = r1; [1] = r2", "(! (! m 1 r2) 2 r1)"}, {"[1] = r0; [2] = r1; [3] = r1; [2] = r3", "(! (! (! m 1 r0) 2 r3) 3 r1)"},
		// just not: a number and a word, in either order; and what lies under a word
		{"[2] = r0; [r1] = r1", "(! (! m 2 r0) r1 r1)"}, {"[r1] = r1; [2] = r0", "(! (! m r1 r1) 2 r0)"}, {"[r3] = r0; [r1] = r1", "(! (! m r3 r0) r1 r1)"}, {"[r1] = r0; [r3] = r1", "(! (! m r1 r0) r3 r1)"}, {"[(+ r0 2)] = r0; [(+ r0 1)] = r1", "(! (! m (+ r0 2) r0) (+ r0 1) r1)"},
		{"[3] = r0; [r2] = r0; [1] = r1", "(! (! (! m 3 r0) r2 r0) 1 r1)"}, {"[5] = r0; [r2] = r0; [3] = r1; [1] = r3", "(! (! (! (! m 5 r0) r2 r0) 1 r3) 3 r1)"}, {"[(/ 7 0)] = r0; [3] = r1", "(! (! m (/ 7 0) r0) 3 r1)"},
	} {
		leaves(t, c[0], c[1])
	}
	leaves(t, "r5 = -9223372036854775808; [r5] = r0; [0] = r1", "(! (! m -9223372036854775808 r0) 0 r1)")
	leaves(t, "[0] = r1; r5 = -9223372036854775808; [r5] = r0", "(! (! m -9223372036854775808 r0) 0 r1)")
	leaves(t, "r5 = (- -9223372036854775808 1); [r5] = r0; [0] = r1", "(! (! m 0 r1) 9223372036854775807 r0)")
}

// Terms of all kinds, held against P8 to P10 said once more.
func TestP9Any(t *testing.T) {
	r := rand.New(rand.NewSource(31))
	big := 0
	for n := 0; n < 30000; n++ {
		p := anyBlocks(r)
		s := flat(p)
		block := r.Intn(len(p.Blocks))
		places, _, isBig := computes(p, block)
		if isBig {
			big++
		}
		for place := 0; place <= p.Regs+p.Slots; place++ {
			if isBig {
				tellsNot(t, s, block, place, api.ErrBig)
			} else {
				tells(t, s, block, place, places[place])
			}
		}
	}
	if big < 60 {
		t.Errorf("the test's own blocks are not big often enough: %d times", big)
	}
}

// Each operation writes its own place and no other, from its own places and no others.
func TestP10Fields(t *testing.T) {
	for kind := api.Const; kind <= api.Get; kind++ {
		for n := 0; n < 4*4*4; n++ {
			o := op(kind, n%4, n/4%4, n/16)
			if shapes[kind][2] == '0' {
				o.C = 0
			}
			p := api.Prog{Args: 2, Regs: 4, Data: 4, Slots: 4, Blocks: []api.Block{{Ops: []api.Op{o}, End: end(api.Halt, 0, 0, 0)}}}
			places, _, _ := computes(p, 0)
			for place, want := range places {
				tells(t, flat(p), 0, place, want)
			}
		}
	}
}

// Const, Move, Put and Get hand terms on as they are, written out.
func TestP10HandedOn(t *testing.T) {
	for _, c := range []struct {
		steps string
		place int
		want  string
	}{
		{"r4 = r1", 4, "r1"}, {"r4 = r1", 1, "r1"}, {"r1 = r1", 1, "r1"}, {"r0 = r1; r1 = r0", 1, "r1"}, {"r4 = 5; r4 = 6", 4, "6"}, {"r4 = 5; r5 = r4; r4 = 6", 5, "5"},
		{"s0 = r1", slot0, "r1"}, {"s0 = r1", slot1, "x9"}, {"s1 = r2", slot1, "r2"}, {"s1 = r2", slot0, "x8"}, {"r4 = s0", 4, "x8"}, {"r4 = s1", 4, "x9"}, {"r4 = s1", slot1, "x9"}, {"s0 = s1", slot0, "x9"}, {"s0 = r1; s0 = r2", slot0, "r2"},
		{"s0 = (* r1 r0); r0 = 4; r4 = s0", 4, "(* r0 r1)"}, {"s0 = s1; s1 = r0; r4 = s0", 4, "x9"}, {"s1 = (@ m r0); [r0] = 4; r4 = s1", 4, "(@ m r0)"}, {"s1 = -7; r4 = (+ s1 s0)", 4, "(+ x8 -7)"},
		{"[r0] = s0", cells, "(! m r0 x8)"}, {"[s1] = r0", cells, "(! m x9 r0)"}, {"s0 = r0", cells, "m"}, {"r0 = (@ m r0)", cells, "m"}, {"[r0] = r1; r0 = 5; r1 = 6", cells, "(! m r0 r1)"}, {"r0 = r1; [r0] = r2", cells, "(! m r1 r2)"},
		{"r0 = (+ r0 r0); r0 = (* r0 r0)", 0, "(* (+ r0 r0) (+ r0 r0))"}, {"r0 = (- r1 r0); r1 = (- r1 r0)", 1, "(- r1 (- r1 r0))"}, {"r0 = (@ m r0); r0 = (@ m r0)", 0, "(@ m (@ m r0))"},
	} {
		tells(t, oneBlock(c.steps), 0, c.place, c.want)
	}
}

// Each block begins anew, whichever blocks lead to it and whatever its end is.
func TestP10Blocks(t *testing.T) {
	p := api.Prog{Args: 1, Regs: 2, Data: 2, Slots: 1, Blocks: halts(6)}
	for i := range p.Blocks {
		p.Blocks[i].Ops = []api.Op{op(api.Const, 1, 128, 10+i), op(api.Add, 0, 0, 1), op(api.Store, 0, 1, 0), op(api.Put, 0, 0, 0)}
		p.Blocks[i].End = []api.End{end(api.Jump, 0, i, 0), end(api.Branch, 1, 0, 5), end(api.Halt, 1, 0, 0)}[i%3]
	}
	for i := range p.Blocks {
		sum := fmt.Sprintf("(+ r0 %d)", 10+i)
		tells(t, flat(p), i, 0, sum)
		tells(t, flat(p), i, 1, fmt.Sprint(10+i))
		tells(t, flat(p), i, 2, sum)
		tells(t, flat(p), i, 3, fmt.Sprintf("(! m %s %d)", sum, 10+i))
	}
}

// Blocks and places at the bounds and just beyond, for every count of registers, slots and blocks.
func TestP10Args(t *testing.T) {
	for regs := 1; regs <= 8; regs++ {
		for slots := 0; slots <= 8; slots++ {
			for blocks := 1; blocks <= 6; blocks += 5 {
				s := flat(api.Prog{Regs: regs, Slots: slots, Blocks: halts(blocks)})
				tells(t, s, 0, regs+slots, "m")
				tells(t, s, blocks-1, regs+slots, "m")
				for _, n := range append(numbers(), regs+slots+1, regs+slots, -1-regs-slots) {
					if !within(n, 0, regs+slots) {
						tellsNot(t, s, 0, n, api.ErrArg)
						tellsNot(t, s, blocks-1, n, api.ErrArg)
					}
					if !within(n, 0, blocks-1) {
						tellsNot(t, s, n, 0, api.ErrArg)
						tellsNot(t, s, n, regs+slots, api.ErrArg)
						tellsNot(t, s, n, n, api.ErrArg)
					}
				}
			}
		}
	}
}

// What Decode refuses, Term refuses, and nothing else.
func TestP10NoTexts(t *testing.T) {
	s := flat(every())
	for i := range s {
		tellsNot(t, s[:i], 0, 0, api.ErrProgram)
		for v := 0; v < 256; v++ {
			changed := s[:i] + text(v) + s[i+1:]
			_, want := twin.Decode(changed)
			_, e := twin.Term(changed, 0, 0)
			if (want == api.ErrProgram) != (e == api.ErrProgram) {
				t.Errorf("Term(%v) = %d, Decode = %d", []byte(changed), e, want)
			}
		}
	}
	for _, no := range []string{"", "TW", "tw" + s[2:], s + s, s + "\n", text(hintFields(some())...), strings.Repeat("\xff", 100000)} {
		for _, n := range []int{math.MinInt, -1, 0, 9, math.MaxInt} {
			tellsNot(t, no, n, 0, api.ErrProgram)
			tellsNot(t, no, 0, n, api.ErrProgram)
			tellsNot(t, no, n, n, api.ErrProgram)
		}
	}
}

// doubled: steps that make register 4 of a term, then twice as big and one bigger, so many times.
func doubled(term string, times int) string {
	return "r4 = " + term + strings.Repeat("; r4 = (* r4 r4)", times)
}

// grown: steps that make a term of 2^(times+1) - 1 parts in register 4, by as many operations.
func grown(times int) string { return doubled("(* r0 r0)", times-1) }

// Blocks that are just not big: a term of 4095 parts by each kind of operation that can give one, and what comes after it.
func TestP10JustNotBig(t *testing.T) {
	for _, steps := range []string{
		grown(11), grown(11) + "; r5 = r4", grown(11) + "; s0 = r4", grown(11) + "; r4 = 7", grown(11) + "; r5 = s0",
		grown(11) + "; r5 = (^ r4 r4)", grown(11) + "; r5 = (& r4 r4)", grown(11) + "; r5 = (= r4 r4)", grown(11) + "; r5 = (@ m r0)", grown(11) + "; [r0] = r1",
		grown(8) + "; r5 = (* r4 r4); [r4] = r5; [r5] = r5; r6 = (@ m r4)",  // of a Load
		grown(8) + "; r5 = (* r4 r4); r6 = (* r5 r5); [r4] = r6; [r5] = r4", // of a Store
		doubled("s0", 11), doubled("(- -7 r0)", 10), doubled("(/ 7 0)", 9), doubled("(@ m r0)", 10), // from parts of each form
		grown(10) + "; [r0] = r4; [r0] = r4", grown(10) + "; [r4] = r0; r5 = (@ m r4)",
	} {
		p := decoded(t, oneBlock(steps))
		places, _, big := computes(p, 0)
		if big {
			t.Fatalf("the test's own block is big: %s", steps)
		}
		for place, want := range places {
			tells(t, flat(p), 0, place, want)
		}
	}
	for _, o := range signs {
		steps := grown(9) + fmt.Sprintf("; r5 = (* r4 r4); r6 = (+ r4 r4); r4 = (%c r5 r6)", o) // 2047 parts and 2047
		places, _, _ := computes(decoded(t, oneBlock(steps)), 0)
		if sizeOf(places[4]) != 4095 {
			t.Errorf("the test's own term has %d parts, want 4095", sizeOf(places[4]))
		}
		tells(t, oneBlock(steps), 0, 4, places[4])
	}
}

// Blocks that are just big: by 1, or by the 2 that a sign and a word bring.
func TestP10JustBig(t *testing.T) {
	for _, steps := range []string{
		grown(11) + "; r5 = (@ m r4)", grown(11) + "; [r4] = r0", grown(11) + "; [r0] = r4",
		grown(9) + "; r5 = (* r4 r4); [r4] = r4; r6 = (@ m r5)",                                                            // 4096 parts of a Load
		grown(10) + "; [r4] = r4",                                                                                          // 4096 parts of a Store
		doubled("s0", 10) + "; [r4] = r4", doubled("(- -7 r0)", 9) + "; [r4] = r4", doubled("(@ m r0)", 9) + "; [r4] = r4", // from parts of each form
		grown(10) + "; [r4] = r4; [r4] = r0", grown(10) + "; [r4] = r4; r4 = 0", // what is big is gone at the end
	} {
		for place := 0; place <= cells; place++ {
			tellsNot(t, oneBlock(steps), 0, place, api.ErrBig)
		}
		tellsNot(t, oneBlock(steps), 0, cells+1, api.ErrArg)
		tellsNot(t, oneBlock(steps), 0, -1, api.ErrArg)
		tellsNot(t, oneBlock(steps), 1, 0, api.ErrArg)
		tellsNot(t, oneBlock(steps)+"\x00", 0, 0, api.ErrProgram)
		tellsNot(t, oneBlock(steps)+"\x00", 1, -1, api.ErrProgram)
	}
	for _, o := range signs {
		for _, c := range []string{"(%c r4 r1)", "(%c r1 r4)"} {
			tellsNot(t, oneBlock(grown(11)+"; r5 = "+fmt.Sprintf(c, o)), 0, 0, api.ErrBig)
		}
		tellsNot(t, oneBlock(grown(10)+fmt.Sprintf("; r5 = (+ r4 r1); r6 = (%c r4 r5)", o)), 0, 0, api.ErrBig) // 2047 parts and 2049
	}
}

// A big block is its own matter: the others are told.
func TestP10BigBlock(t *testing.T) {
	p := api.Prog{Regs: 8, Blocks: halts(3)}
	p.Blocks[1].Ops = written(grown(10) + "; [r4] = r4")
	tells(t, flat(p), 0, 0, "r0")
	tellsNot(t, flat(p), 1, 0, api.ErrBig)
	tells(t, flat(p), 2, 8, "m")
}

// valueOf: the word that a term says, of registers, slots and cells at the begin; places holds the first two.
func valueOf(s string, places, mem []int) int {
	p := parts(s)
	switch {
	case p == nil && strings.Contains("rx", s[:1]):
		return places[after(s)]
	case p == nil:
		n, _ := asNumber(s)
		return n
	case p[0] == "@":
		return cellsOf(p[1], places, mem)[valueOf(p[2], places, mem)]
	}
	return given(kindOf(p[0]), valueOf(p[1], places, mem), valueOf(p[2], places, mem))
}

// cellsOf: the same for all cells.
func cellsOf(s string, places, mem []int) []int {
	p := parts(s)
	if p == nil {
		return mem
	}
	l := append([]int(nil), cellsOf(p[1], places, mem)...)
	l[valueOf(p[2], places, mem)] = valueOf(p[3], places, mem)
	return l
}

// What a term says is what a run does.
func TestP10Runs(t *testing.T) {
	r := rand.New(rand.NewSource(32))
	done := 0
	for n := 0; n < 30000; n++ {
		p := anyBlocks(r)
		p.Args, p.Blocks = p.Regs, p.Blocks[:1]
		p.Blocks[0].End.R = r.Intn(p.Regs)
		in := zeros(p, 0, 0, 0)
		for _, l := range [][]int{in.Args, in.Mem, in.Spill} {
			for i := range l {
				l[i] = r.Intn(p.Data+1) - r.Intn(2)
				if r.Intn(4) == 0 {
					l[i] = words()[r.Intn(len(words()))]
				}
			}
		}
		o, _ := twin.Run(flat(p), in, 1)
		result, errno := twin.Term(flat(p), 0, p.Blocks[0].End.R)
		if o.Kind != api.Halted || errno != api.OK || len(result) > 2000 {
			continue
		}
		done++
		places := append(append([]int(nil), in.Args...), in.Spill...)
		if v := valueOf(result, places, in.Mem); v != o.Result {
			t.Errorf("Term(%v) = %s, which is %d with %v; Run answers %d", []byte(flat(p)), result, v, in, o.Result)
		}
		all, _ := twin.Term(flat(p), 0, p.Regs+p.Slots)
		if l := cellsOf(all, places, in.Mem); fmt.Sprint(l) != fmt.Sprint(o.Mem) {
			t.Errorf("Term(%v) = %s, which is %v with %v; Run answers %v", []byte(flat(p)), all, l, in, o.Mem)
		}
	}
	if done < 5000 {
		t.Errorf("the test's own programs halt not often enough: %d times", done)
	}
}
