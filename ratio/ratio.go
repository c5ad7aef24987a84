// Package ratio has fractions that are held against one another exactly, and products that are longer than a number (layer 1, chapter doc/01-ratio.md).
package ratio

import (
	"cmp"
	"math"
	"math/bits"

	"cicerone/api"
)

// Ratio is a fraction, that may be if Num isn't below 0 and Den isn't below 1.
type Ratio = api.Ratio

// long is a number from 0 to 2^128 - 1.
type long struct{ high, low uint64 }

// May tells whether r may be.
func May(r Ratio) bool {
	return r.Num >= 0 && r.Den >= 1
}

// Compare tells whether a is less than b (-1), as much (0), or more (1); one that may not be counts as nought.
func Compare(a, b Ratio) int {
	a, b = orNought(a), orNought(b)
	left, right := multiply(uint64(a.Num), uint64(b.Den)), multiply(uint64(b.Num), uint64(a.Den))
	if c := cmp.Compare(left.high, right.high); c != 0 {
		return c
	}
	return cmp.Compare(left.low, right.low)
}

// Product is a times b, as its high and its low 64 bits; a number below 0 counts as 0.
func Product(a, b int64) (high, low uint64) {
	p := multiply(uint64(max(a, 0)), uint64(max(b, 0)))
	return p.high, p.low
}

// Scale is x times num, divided by den, rounded down; false if one of them may not be, or if it is above 2^63 - 1.
func Scale(x, num, den int64) (int64, bool) {
	if x < 0 || num < 0 || den < 1 {
		return 0, false
	}
	return divide(multiply(uint64(x), uint64(num)), uint64(den))
}

// Sum is the sum of l, made from the left on, and reduced at each step; false if one of l may not be, or if a step's sum is too long.
func Sum(l ...Ratio) (Ratio, bool) {
	for _, r := range l {
		if !May(r) {
			return Ratio{}, false
		}
	}
	sum := nought()
	for _, r := range l {
		next, ok := add(sum, reduce(r))
		if !ok {
			return Ratio{}, false
		}
		sum = next
	}
	return sum, true
}

func nought() Ratio {
	return Ratio{Num: 0, Den: 1}
}

func orNought(r Ratio) Ratio {
	if !May(r) {
		return nought()
	}
	return r
}

// reduce needs a fraction that may be.
func reduce(r Ratio) Ratio {
	d := int64(divisor(uint64(r.Num), uint64(r.Den)))
	return Ratio{Num: r.Num / d, Den: r.Den / d}
}

// add needs two reduced fractions. Then only what divides both denominators can divide the sum as well, so that no divisor of two long numbers is looked for.
func add(a, b Ratio) (Ratio, bool) {
	aDen, bDen := uint64(a.Den), uint64(b.Den)
	both := divisor(aDen, bDen)
	num := plus(multiply(uint64(a.Num), bDen/both), multiply(uint64(b.Num), aDen/both))
	d := divisor(both, bits.Rem64(num.high, num.low, both))
	n, numFits := divide(num, d)
	m, denFits := divide(multiply(aDen/both, bDen/d), 1)
	if !numFits || !denFits {
		return Ratio{}, false
	}
	return Ratio{Num: n, Den: m}, true
}

// divisor is the greatest common one; that of a number and 0 is the number.
func divisor(a, b uint64) uint64 {
	for b != 0 {
		a, b = b, a%b
	}
	return a
}

// multiply is four products of halves: none of them is longer than 64 bits.
func multiply(a, b uint64) long {
	aHigh, aLow := a>>32, a&math.MaxUint32
	bHigh, bLow := b>>32, b&math.MaxUint32
	first, second := aHigh*bLow, aLow*bHigh
	p := long{high: aHigh * bHigh, low: aLow * bLow}
	p = plus(p, long{high: first >> 32, low: first << 32})
	return plus(p, long{high: second >> 32, low: second << 32})
}

// plus needs a sum below 2^128. A low half that has become less than what was added to it has gone round once: that is the carry.
func plus(a, b long) long {
	s := long{high: a.high + b.high, low: a.low + b.low}
	if s.low < b.low {
		s.high++
	}
	return s
}

// divide rounds down; false if what comes out is above 2^63 - 1. It needs a d above 0.
func divide(a long, d uint64) (int64, bool) {
	if a.high >= d {
		return 0, false
	}
	q, _ := bits.Div64(a.high, a.low, d)
	if q > math.MaxInt64 {
		return 0, false
	}
	return int64(q), true
}
