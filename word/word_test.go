package word

import (
	"math"
	"testing"

	"twin/api"
)

// What gives no word gives 0 beside the false, at all words.
func TestP7NoWord(t *testing.T) {
	for _, x := range []int{math.MinInt, -1, 0, 1, math.MaxInt} {
		if v, ok := Of(api.Div, x, 0); v != 0 || ok {
			t.Errorf("Of(Div, %d, 0) = %d, %t", x, v, ok)
		}
		for _, kind := range []int{math.MinInt, -1, 0, api.Const, api.Move, api.Load, api.Store, api.Put, api.Get, 16, math.MaxInt} {
			if v, ok := Of(kind, x, 3); v != 0 || ok {
				t.Errorf("Of(%d, %d, 3) = %d, %t", kind, x, v, ok)
			}
		}
	}
}

// Only a Div has something against 0, and only as the second word.
func TestP7Zero(t *testing.T) {
	for kind := api.Add; kind <= api.Div; kind++ {
		if _, ok := Of(kind, 0, 5); !ok {
			t.Errorf("Of(%d, 0, 5) gives nothing", kind)
		}
		if _, ok := Of(kind, 5, 0); ok != (kind != api.Div) {
			t.Errorf("Of(%d, 5, 0): %t", kind, ok)
		}
	}
}
