package dedupe

import (
	"math"
	"testing"
)

// P7.1: so many sources that an int doesn't tell how many numbers they have; a set that has them takes more room than a test should.
func TestSum(t *testing.T) {
	all := 1 << 40
	for _, x := range []struct{ a, b, want int }{
		{0, 0, 0},
		{0, all, all},
		{1, 2, 3},
		{math.MaxInt - all, all, math.MaxInt},
		{math.MaxInt - all, all - 1, math.MaxInt - 1},
		{math.MaxInt - all + 1, all, math.MaxInt},
		{math.MaxInt, 0, math.MaxInt},
		{math.MaxInt, 1, math.MaxInt},
		{math.MaxInt, all, math.MaxInt},
	} {
		if got := sum(x.a, x.b); got != x.want {
			t.Errorf("sum(%d, %d): %d, not %d", x.a, x.b, got, x.want)
		}
	}
}
