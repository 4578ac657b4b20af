package compare

import (
	"twin/api"
	"twin/compute"
	"twin/term"
)

// exit is how a block is left, as far as its terms tell.
type exit struct {
	kind int       // of an end
	on   term.Term // what a Branch goes by, or a Halt's result; of a Jump the empty term
	next []int     // the blocks to go on with: of a Jump one, of a Branch two, of a Halt none
}

// compareBlock tells the first thing that is wrong between a block of the target and its block of the source.
func (c couple) compareBlock(b int) api.Errno {
	pairing := c.pairings[b]
	source := compute.Block(c.source, pairing.Source)
	target := compute.Paired(c.target, b, pairing.Pairs)
	if source.Big || target.Big {
		return api.ErrBig
	}
	if !isSameList(source.Marks, target.Marks) {
		return api.ErrMarks
	}
	if !term.Same(source.Cells, target.Cells) {
		return api.ErrMemory
	}
	left := exitOf(source, c.source.Blocks[pairing.Source].End)
	right := exitOf(target, c.target.Blocks[b].End)
	if left.kind != right.kind || !term.Same(left.on, right.on) {
		return api.ErrEnd
	}
	if !c.goTogether(left.next, right.next) {
		return api.ErrEdge
	}
	if !c.keepPairs(source, target, right.next) {
		return api.ErrPair
	}
	return api.OK
}

func isSameList(a []string, b []string) bool {
	if len(a) != len(b) {
		return false
	}
	for i := 0; i < len(a); i++ {
		if a[i] != b[i] {
			return false
		}
	}
	return true
}

// exitOf tells how a block is left. A Branch by a number always goes one way, and is so no more than a Jump.
func exitOf(st compute.State, e api.End) exit {
	on := st.Places[e.R]
	n, isNumber := on.Number()
	switch {
	case e.Kind == api.Halt:
		return exit{kind: api.Halt, on: on}
	case e.Kind == api.Jump:
		return jumpTo(e.X)
	case !isNumber:
		return exit{kind: api.Branch, on: on, next: []int{e.X, e.Y}}
	case n != 0:
		return jumpTo(e.X)
	}
	return jumpTo(e.Y)
}

func jumpTo(block int) exit {
	return exit{kind: api.Jump, next: []int{block}}
}

// goTogether tells whether the blocks that the two go on with are paired. Ends of one kind go on with equally many.
func (c couple) goTogether(left []int, right []int) bool {
	for i := 0; i < len(left) && i < len(right); i++ {
		if c.pairings[right[i]].Source != left[i] {
			return false
		}
	}
	return true
}

// keepPairs tells whether all that the pairings of the next blocks say is so at the end of this one.
func (c couple) keepPairs(source compute.State, target compute.State, next []int) bool {
	for i := 0; i < len(next); i++ {
		if !isKept(source, target, c.pairings[next[i]].Pairs) {
			return false
		}
	}
	return true
}

func isKept(source compute.State, target compute.State, pairs []api.Pair) bool {
	for i := 0; i < len(pairs); i++ {
		if !term.Same(source.Places[pairs[i].Reg], target.Places[pairs[i].Place]) {
			return false
		}
	}
	return true
}
