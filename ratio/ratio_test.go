package ratio_test

import (
	"math"
	"math/big"
	"math/bits"
	"math/rand/v2"
	"slices"
	"testing"

	"cicerone/ratio"
)

const most = math.MaxInt64

// Two primes so great that no number has their product.
const (
	primeA = 1<<61 - 1
	primeB = 1<<31 - 1
)

func of(num, den int64) ratio.Ratio {
	return ratio.Ratio{Num: num, Den: den}
}

// edges are the numbers at which halves, carries and signs change.
func edges() []int64 {
	return []int64{
		math.MinInt64, math.MinInt64 + 1, -1 << 32, -7, -1,
		0, 1, 2, 3, 6, 7,
		1<<31 - 1, 1 << 31, 1<<31 + 1, 1<<32 - 1, 1 << 32, 1<<32 + 1,
		1<<33 - 1, 3<<32 + 5, 1<<61 - 1, 1<<62 - 1, 1 << 62, 1<<62 + 1, most - 1, most,
	}
}

// draws are numbers of all lengths, the same in every run.
func draws(n int) []int64 {
	r := rand.New(rand.NewPCG(1, 2))
	l := make([]int64, n)
	for i := range l {
		l[i] = r.Int64() >> r.IntN(63)
	}
	return l
}

// fractions are of all edges, the ones that may not be among them.
func fractions() []ratio.Ratio {
	var l []ratio.Ratio
	for _, num := range edges() {
		for _, den := range edges() {
			l = append(l, of(num, den))
		}
	}
	return l
}

func long(high, low uint64) *big.Int {
	b := new(big.Int).Lsh(new(big.Int).SetUint64(high), 64)
	return b.Or(b, new(big.Int).SetUint64(low))
}

func product(a, b int64) *big.Int {
	return new(big.Int).Mul(big.NewInt(max(a, 0)), big.NewInt(max(b, 0)))
}

// worth is what a fraction counts as.
func worth(r ratio.Ratio) *big.Rat {
	if r.Num < 0 || r.Den < 1 {
		return new(big.Rat)
	}
	return big.NewRat(r.Num, r.Den)
}

// P1.1.
func TestMay(t *testing.T) {
	for _, r := range fractions() {
		if got, want := ratio.May(r), r.Num >= 0 && r.Den >= 1; got != want {
			t.Errorf("May(%v): %v", r, got)
		}
	}
}

// P1.1.
func TestCompareExamples(t *testing.T) {
	for _, x := range []struct {
		a, b ratio.Ratio
		want int
	}{
		{of(1, 3), of(2, 6), 0},
		{of(1<<62, 1<<62-1), of(1<<62+1, 1<<62), 1},
		{of(most, most-1), of(most-1, most-2), -1},
		{of(most, most), of(1, 1), 0},
		{of(most, 1), of(most, 2), 1},
		{of(0, 1), of(0, most), 0},
		{of(1, most), of(0, 1), 1},
		// those that may not be are nought, even where both signs are wrong
		{of(-5, 1), of(0, 1), 0},
		{of(5, 0), of(0, 1), 0},
		{of(-5, -7), of(1, most), -1},
		{of(math.MinInt64, math.MinInt64), of(most, math.MinInt64), 0},
		{ratio.Ratio{}, of(1, 1), -1},
	} {
		if got := ratio.Compare(x.a, x.b); got != x.want {
			t.Errorf("Compare(%v, %v): %d, not %d", x.a, x.b, got, x.want)
		}
	}
}

// P1.1: exactly, whatever the sizes.
func TestCompareIsExact(t *testing.T) {
	l := fractions()
	d := draws(400)
	for i := 0; i+1 < len(d); i += 2 {
		l = append(l, of(d[i], d[i+1]))
	}
	for _, a := range l {
		for _, b := range l {
			if got, want := ratio.Compare(a, b), worth(a).Cmp(worth(b)); got != want {
				t.Fatalf("Compare(%v, %v): %d, not %d", a, b, got, want)
			}
		}
	}
}

// P1.2: of any two one way.
func TestCompareIsOneWay(t *testing.T) {
	l := fractions()
	for _, a := range l {
		if c := ratio.Compare(a, a); c != 0 {
			t.Fatalf("%v against itself: %d", a, c)
		}
		for _, b := range l {
			there, back := ratio.Compare(a, b), ratio.Compare(b, a)
			if there != -back || there < -1 || there > 1 {
				t.Fatalf("%v, %v: there %d, back %d", a, b, there, back)
			}
		}
	}
}

// P1.2: of any three one behind the other.
func TestCompareIsInARow(t *testing.T) {
	l := []ratio.Ratio{
		{}, of(-1, 1), of(1, -1), of(most, 0), of(0, 1), of(0, most),
		of(1, most), of(1, most-1), of(1, 3), of(2, 6), of(1, 2), of(1<<61, 1<<62),
		of(most-2, most-1), of(most-1, most), of(1, 1), of(most, most),
		of(most, most-1), of(most-1, most-2), of(1<<62, 1<<62-1), of(1<<62+1, 1<<62),
		of(1<<32, 1), of(1<<32+1, 1), of(1<<33, 2), of(most-1, 1), of(most, 1), of(most, 2),
	}
	d := draws(80)
	for i := 0; i+1 < len(d); i += 2 {
		l = append(l, of(d[i], d[i+1]))
	}
	for _, a := range l {
		for _, b := range l {
			for _, c := range l {
				ab, bc, ac := ratio.Compare(a, b), ratio.Compare(b, c), ratio.Compare(a, c)
				if ab <= 0 && bc <= 0 && (ac > 0 || ac == 0 && (ab < 0 || bc < 0)) {
					t.Fatalf("%v, %v, %v: %d, %d, but %d", a, b, c, ab, bc, ac)
				}
			}
		}
	}
}

// P1.1.
func TestProduct(t *testing.T) {
	if high, low := ratio.Product(1<<40, 1<<40); high != 1<<16 || low != 0 {
		t.Error(high, low)
	}
	if high, low := ratio.Product(most, most); high != 1<<62-1 || low != 1 {
		t.Error(high, low)
	}
	l := append(edges(), draws(300)...)
	for _, a := range l {
		for _, b := range l {
			if high, low := ratio.Product(a, b); long(high, low).Cmp(product(a, b)) != 0 {
				t.Fatalf("Product(%d, %d): %d, %d", a, b, high, low)
			}
		}
	}
}

// P1.1.
func TestScaleExamples(t *testing.T) {
	for _, x := range []struct {
		x, num, den, want int64
		ok                bool
	}{
		{10, 7, 3, 23, true},
		{0, 0, 1, 0, true},
		{0, most, most, 0, true},
		{1, 1, most, 0, true},
		// products longer than 64 bits
		{most, most, most, most, true},
		{1 << 40, 1 << 40, 1 << 20, 1 << 60, true},
		{most - 1, most, most - 1, most, true},
		{most, most - 1, most, most - 1, true},
		// the greatest that is told, and the least that isn't
		{most, 1, 1, most, true},
		{1 << 62, 2, 1, 0, false},
		{1 << 62, 4, 2, 0, false},
		{most, 3, 3, most, true},
		{most, 2, 1, 0, false},
		{1 << 32, 1 << 32, 1, 0, false},
		{1 << 32, 1 << 32, 2, 0, false},
		{1 << 32, 1 << 32, 3, 6148914691236517205, true},
		{most, most, 1, 0, false},
		{most, most, most - 1, 0, false},
		{most, most, most - 2, 0, false},
		// wrong ones, each place alone and with others that are right
		{-1, 5, 9, 0, false},
		{5, -1, 9, 0, false},
		{-5, -5, 9, 0, false},
		{0, -1, 9, 0, false},
		{1, 1, 0, 0, false},
		{0, 0, 0, 0, false},
		{1, 1, -1, 0, false},
		{math.MinInt64, math.MinInt64, math.MinInt64, 0, false},
	} {
		if got, ok := ratio.Scale(x.x, x.num, x.den); got != x.want || ok != x.ok {
			t.Errorf("Scale(%d, %d, %d): %d, %v", x.x, x.num, x.den, got, ok)
		}
	}
}

func scaleTriples(each func(x, num, den int64)) {
	for _, x := range edges() {
		for _, num := range edges() {
			for _, den := range edges() {
				each(x, num, den)
			}
		}
	}
	d := draws(30000)
	for i := 0; i+2 < len(d); i += 3 {
		each(d[i], d[i+1], d[i+2])
	}
}

// P1.1.
func TestScaleIsExact(t *testing.T) {
	scaleTriples(func(x, num, den int64) {
		want, fits := int64(0), x >= 0 && num >= 0 && den >= 1
		if fits {
			q := new(big.Int).Div(product(x, num), big.NewInt(den))
			fits = q.IsInt64()
			if fits {
				want = q.Int64()
			}
		}
		if got, ok := ratio.Scale(x, num, den); got != want || ok != fits {
			t.Fatalf("Scale(%d, %d, %d): %d, %v, not %d, %v", x, num, den, got, ok, want, fits)
		}
	})
}

// P1.3: told by the package's own calls alone.
func TestScaledAndLeftMakeTheProduct(t *testing.T) {
	told := 0
	scaleTriples(func(x, num, den int64) {
		scaled, ok := ratio.Scale(x, num, den)
		if !ok {
			return
		}
		told++
		high, low := ratio.Product(x, num)
		scaledHigh, scaledLow := ratio.Product(scaled, den)
		left, borrow := bits.Sub64(low, scaledLow, 0)
		leftHigh, borrow := bits.Sub64(high, scaledHigh, borrow)
		if borrow != 0 || leftHigh != 0 || left >= uint64(den) {
			t.Fatalf("Scale(%d, %d, %d): %d, left %d, %d", x, num, den, scaled, leftHigh, left)
		}
	})
	if told < 1000 {
		t.Errorf("only %d could be scaled", told)
	}
}

// P1.1.
func TestSumExamples(t *testing.T) {
	for _, x := range []struct {
		l    []ratio.Ratio
		want ratio.Ratio
		ok   bool
	}{
		// none, and one
		{nil, of(0, 1), true},
		{[]ratio.Ratio{}, of(0, 1), true},
		{[]ratio.Ratio{of(4, 6)}, of(2, 3), true},
		{[]ratio.Ratio{of(0, most)}, of(0, 1), true},
		{[]ratio.Ratio{of(most, most)}, of(1, 1), true},
		{[]ratio.Ratio{of(most, 1)}, of(most, 1), true},
		{[]ratio.Ratio{of(1, most)}, of(1, most), true},
		// more
		{[]ratio.Ratio{of(1, 6), of(1, 3)}, of(1, 2), true},
		{[]ratio.Ratio{of(1, 2), of(1, 3), of(1, 6)}, of(1, 1), true},
		{[]ratio.Ratio{of(0, 7), of(0, 9)}, of(0, 1), true},
		// longer than a number till it is reduced
		{[]ratio.Ratio{of(most, 2), of(most, 2)}, of(most, 1), true},
		{[]ratio.Ratio{of(most, most), of(most, most)}, of(2, 1), true},
		{[]ratio.Ratio{of(1, most), of(most-1, most)}, of(1, 1), true},
		{[]ratio.Ratio{of(1<<62, most), of(1<<62-1, most)}, of(1, 1), true},
		// the greatest, and beyond it
		{[]ratio.Ratio{of(1<<62, 1), of(1<<62-1, 1)}, of(most, 1), true},
		{[]ratio.Ratio{of(1<<62, 1), of(1<<62, 1)}, ratio.Ratio{}, false},
		{[]ratio.Ratio{of(most, 1), of(1, 1)}, ratio.Ratio{}, false},
		{[]ratio.Ratio{of(most, 1), of(1, most)}, ratio.Ratio{}, false},
		{[]ratio.Ratio{of(most, 1), of(most, 1), of(most, 1)}, ratio.Ratio{}, false},
		{[]ratio.Ratio{of(1, 1<<62), of(1, 3)}, ratio.Ratio{}, false},
		{[]ratio.Ratio{of(1, primeA), of(1, primeB)}, ratio.Ratio{}, false},
		// some that may not be, wherever they stand
		{[]ratio.Ratio{{}}, ratio.Ratio{}, false},
		{[]ratio.Ratio{of(-1, 1)}, ratio.Ratio{}, false},
		{[]ratio.Ratio{of(1, -1)}, ratio.Ratio{}, false},
		{[]ratio.Ratio{of(-2, -4)}, ratio.Ratio{}, false},
		{[]ratio.Ratio{of(0, 0), of(1, 3)}, ratio.Ratio{}, false},
		{[]ratio.Ratio{of(1, 3), of(1, 3), of(1, 0)}, ratio.Ratio{}, false},
		{[]ratio.Ratio{of(1, 1), of(-1, 1), of(1, 1)}, ratio.Ratio{}, false},
		{[]ratio.Ratio{of(math.MinInt64, math.MinInt64)}, ratio.Ratio{}, false},
	} {
		if got, ok := ratio.Sum(x.l...); got != x.want || ok != x.ok {
			t.Errorf("Sum(%v): %v, %v, not %v, %v", x.l, got, ok, x.want, x.ok)
		}
	}
}

// P1.1: it is some step that is too long, not the whole.
func TestSumGoesFromTheLeft(t *testing.T) {
	a, restA, b, restB := of(1, primeA), of(primeA-1, primeA), of(1, primeB), of(primeB-1, primeB)
	if got, ok := ratio.Sum(a, restA, b, restB); !ok || got != of(2, 1) {
		t.Error(got, ok)
	}
	if got, ok := ratio.Sum(a, b, restA, restB); ok || got != (ratio.Ratio{}) {
		t.Error(got, ok)
	}
}

// recount is Sum by numbers of any length.
func recount(l []ratio.Ratio) (ratio.Ratio, bool) {
	sum := new(big.Rat)
	for _, r := range l {
		if !ratio.May(r) {
			return ratio.Ratio{}, false
		}
	}
	for _, r := range l {
		sum.Add(sum, worth(r))
		if !sum.Num().IsInt64() || !sum.Denom().IsInt64() {
			return ratio.Ratio{}, false
		}
	}
	return of(sum.Num().Int64(), sum.Denom().Int64()), true
}

// P1.1.
func TestSumIsExact(t *testing.T) {
	all := fractions()
	for _, a := range all {
		for _, b := range all {
			l := []ratio.Ratio{a, b}
			want, fits := recount(l)
			if got, ok := ratio.Sum(l...); got != want || ok != fits {
				t.Fatalf("Sum(%v): %v, %v, not %v, %v", l, got, ok, want, fits)
			}
		}
	}
}

// P1.1: of many, small enough that most sums fit.
func TestSumOfMany(t *testing.T) {
	r := rand.New(rand.NewPCG(3, 4))
	fitted := 0
	for range 5000 {
		l := make([]ratio.Ratio, r.IntN(9))
		top := int64(1) << (2 + r.IntN(40))
		for i := range l {
			l[i] = of(r.Int64N(top), 1+r.Int64N(top))
		}
		want, fits := recount(l)
		if fits {
			fitted++
		}
		if got, ok := ratio.Sum(l...); got != want || ok != fits {
			t.Fatalf("Sum(%v): %v, %v, not %v, %v", l, got, ok, want, fits)
		}
	}
	if fitted < 1000 || fitted > 4900 {
		t.Errorf("%d of 5000 fitted", fitted)
	}
}

// What is handed in isn't changed, its spare room neither.
func TestSumLeavesItsListAlone(t *testing.T) {
	room := []ratio.Ratio{of(4, 6), of(0, 9), of(2, 4), of(6, 8), {}}
	was := slices.Clone(room)
	ratio.Sum(room[:3]...)
	ratio.Sum(room[:5]...)
	if !slices.Equal(room, was) {
		t.Error(room)
	}
}
