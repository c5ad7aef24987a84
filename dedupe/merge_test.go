package dedupe_test

import (
	"math/rand/v2"
	"slices"
	"testing"

	"cicerone/dedupe"
)

// merges merges o into s, and holds both against what they are to be.
func merges(t *testing.T, s, o *dedupe.Set, other []string, lines ...string) {
	t.Helper()
	s.Merge(o)
	holds(t, s, lines...)
	if o != s {
		holds(t, o, other...)
	}
}

// P7.1: of two sets that share nothing, sources, numbers; of an empty one.
func TestMerge(t *testing.T) {
	for _, x := range []struct{ a, b, want []string }{
		{nil, nil, nil},
		{[]string{"a 1-3"}, nil, []string{"a 1-3"}},
		{[]string{"a 1-3"}, []string{"b 2-3"}, []string{"a 1-3", "b 2-3"}},
		{[]string{"a 1-3", "c 5-6"}, []string{"b 2-3", "d 1-2"}, []string{"a 1-3", "b 2-3", "c 5-6", "d 1-2"}},
		{[]string{"a 1-3"}, []string{"a 1-3"}, []string{"a 1-3"}},
		{[]string{"a 1-3"}, []string{"a 3-4"}, []string{"a 1-4"}},
		{[]string{"a 1-3"}, []string{"a 4-5"}, []string{"a 1-3 4-5"}},
		{[]string{"a 1-3 4-6"}, []string{"a 3-4"}, []string{"a 1-6"}},
		{[]string{"a 1-3 4-6"}, []string{"a 2-5"}, []string{"a 1-6"}},
		{[]string{"a 3-5"}, []string{"a 1-9"}, []string{"a 1-9"}},
		{[]string{"a 3-5 6-7 8-9"}, []string{"a 1-9"}, []string{"a 1-9"}},
		{[]string{"a 3-5 6-7 8-9"}, []string{"a 3-6"}, []string{"a 3-7 8-9"}},
		{[]string{"a 3-5 6-7 8-9"}, []string{"a 3-4"}, []string{"a 3-5 6-7 8-9"}},
		{[]string{"a 3-5 6-7 8-9"}, []string{"a 4-6 9-12 20-21"}, []string{"a 3-7 8-12 20-21"}},
		{[]string{"a 1-2 3-4 5-6"}, []string{"a 2-3 4-5 6-7"}, []string{"a 1-7"}},
		{[]string{"a 2-3 6-7"}, []string{"a 4-5 8-9"}, []string{"a 2-3 4-5 6-7 8-9"}},
		{[]string{"a 1-20"}, []string{"a 2-3 5-9 19-21", "b 1-2"}, []string{"a 1-21", "b 1-2"}},
		{[]string{"a 1-1099511627777"}, []string{"a 1099511627776-1099511627777"}, []string{"a 1-1099511627777"}},
		{[]string{"a 1-1099511627776"}, []string{"a 1099511627776-1099511627777"}, []string{"a 1-1099511627777"}},
		{[]string{"a 1-2"}, []string{"a 1099511627776-1099511627777"}, []string{"a 1-2 1099511627776-1099511627777"}},
	} {
		merges(t, set(t, x.a...), set(t, x.b...), x.b, x.want...)
		merges(t, set(t, x.b...), set(t, x.a...), x.a, x.want...)
		// and again, as what is there is there
		s, o := set(t, x.a...), set(t, x.b...)
		s.Merge(o)
		merges(t, s, o, x.b, x.want...)
		merges(t, o, s, x.want, x.want...)
	}
}

// P7.1: a set with itself.
func TestMergeWithItself(t *testing.T) {
	for _, lines := range [][]string{nil, {"a 1-3"}, {"a 2-3 5-9 11-12", "b 1-1099511627777", "c 7-8"}} {
		s := set(t, lines...)
		merges(t, s, s, lines, lines...)
	}
}

// P7.1, R5: behind a Merge both go on by themselves.
func TestMergedGoOnByThemselves(t *testing.T) {
	s, o := dedupe.New(), dedupe.New()
	for _, n := range []int{1, 5, 9, 13} {
		o.Put("a", n)
	}
	s.Merge(o)
	puts(t, s, "a", 6, true, "a 1-2 5-7 9-10 13-14")
	holds(t, o, "a 1-2 5-6 9-10 13-14")
	puts(t, o, "a", 2, true, "a 1-3 5-6 9-10 13-14")
	puts(t, o, "a", 14, true, "a 1-3 5-6 9-10 13-15")
	puts(t, o, "b", 3, true, "a 1-3 5-6 9-10 13-15", "b 3-4")
	holds(t, s, "a 1-2 5-7 9-10 13-14")
	puts(t, s, "a", 20, true, "a 1-2 5-7 9-10 13-14 20-21")
	puts(t, s, "a", 17, true, "a 1-2 5-7 9-10 13-14 17-18 20-21")
	holds(t, o, "a 1-3 5-6 9-10 13-15", "b 3-4")
	s.Merge(o)
	holds(t, s, "a 1-3 5-7 9-10 13-15 17-18 20-21", "b 3-4")
	holds(t, o, "a 1-3 5-6 9-10 13-15", "b 3-4")
}

// permutations is all orders of the numbers.
func permutations(l []int) [][]int {
	if len(l) == 0 {
		return [][]int{nil}
	}
	var orders [][]int
	for i := range l {
		rest := slices.Delete(slices.Clone(l), i, i+1)
		for _, order := range permutations(rest) {
			orders = append(orders, append(order, l[i]))
		}
	}
	return orders
}

// P7.2: the same numbers in every order, all put or some of them merged.
func TestAnyOrder(t *testing.T) {
	for want, numbers := range map[string][]int{
		"a 1-7":             {1, 2, 3, 4, 5, 6},
		"a 1-3 4-7":         {1, 2, 4, 5, 6},
		"a 2-3 4-5 6-7 8-9": {2, 4, 6, 8},
		"a 3-6 7-9":         {3, 4, 5, 7, 8},
		"a 1-2 100-102 1099511627775-1099511627777": {1, 100, 101, most - 1, most},
	} {
		for _, order := range permutations(numbers) {
			s := dedupe.New()
			for _, n := range order {
				if !s.Put("a", n) {
					t.Fatal(order, n)
				}
			}
			asks(t, s, want)
			if string(s.Encode()) != string(bytesOf(t, want)) {
				t.Errorf("%v: %x", order, s.Encode())
			}
			first, second := dedupe.New(), dedupe.New()
			for i, n := range order {
				if i < len(order)/2 {
					first.Put("a", n)
				} else {
					second.Put("a", n)
				}
			}
			second.Merge(first)
			if string(second.Encode()) != string(bytesOf(t, want)) {
				t.Errorf("%v, merged: %x", order, second.Encode())
			}
		}
	}
}

// P7.2: many numbers of several sources, in any order, put to several sets that are merged.
func TestAnyOrderOfMany(t *testing.T) {
	type told struct {
		source string
		n      int
	}
	var numbers []told
	for _, source := range []string{"a", "b", "c-1"} {
		for _, n := range slices.Concat(all(1, 100), all(101, 160), all(200, 300), []int{302, 304, 306, 1 << 20, most}) {
			numbers = append(numbers, told{source, n})
		}
	}
	const row = " 1-100 101-160 200-300 302-303 304-305 306-307 1048576-1048577 1099511627776-1099511627777"
	lines := []string{"a" + row, "b" + row, "c-1" + row}
	r := rand.New(rand.NewPCG(2, 7))
	for range 50 {
		r.Shuffle(len(numbers), func(i, k int) { numbers[i], numbers[k] = numbers[k], numbers[i] })
		sets := make([]*dedupe.Set, 1+r.IntN(5))
		for i := range sets {
			sets[i] = dedupe.New()
		}
		for _, x := range numbers {
			for range 1 + r.IntN(2) {
				sets[r.IntN(len(sets))].Put(x.source, x.n)
			}
		}
		s := dedupe.New()
		for _, o := range sets {
			s.Merge(o)
		}
		asks(t, s, lines...)
		if string(s.Encode()) != string(bytesOf(t, lines...)) {
			t.Errorf("%x", s.Encode())
		}
	}
}
