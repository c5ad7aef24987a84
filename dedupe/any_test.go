package dedupe_test

import (
	"math/rand/v2"
	"slices"
	"testing"

	"cicerone/api"
	"cicerone/dedupe"
)

// book is a set as the document tells of it: all ranges that it was told, by their sources; the fewest ones are told anew each time.
type book map[string][]dedupe.Range

func (b book) tell(source string, l ...dedupe.Range) {
	b[source] = append(b[source], l...)
}

// lines goes through the places where numbers that are had begin or end.
func (b book) lines() []string {
	var names, lines []string
	for name := range b {
		names = append(names, name)
	}
	slices.Sort(names)
	for _, name := range names {
		var places []int
		for _, r := range b[name] {
			places = append(places, r.From, r.To)
		}
		slices.Sort(places)
		var fewest []dedupe.Range
		for _, n := range slices.Compact(places) {
			if in(b[name], n) && !in(b[name], n-1) {
				fewest = append(fewest, dedupe.Range{From: n})
			}
			if !in(b[name], n) {
				fewest[len(fewest)-1].To = n
			}
		}
		lines = append(lines, line(name, fewest...))
	}
	return lines
}

// kept is sets and their books.
type kept struct {
	t     *testing.T
	r     *rand.Rand
	sets  [3]*dedupe.Set
	books [3]book
	met   map[string]int
}

func (k *kept) some() int {
	switch k.r.IntN(20) {
	case 0:
		return ends[k.r.IntN(len(ends))]
	case 1, 2, 3:
		return most + 1 - k.r.IntN(9)
	}
	return k.r.IntN(20)
}

func (k *kept) name() string {
	if k.r.IntN(12) == 0 {
		return noNames[k.r.IntN(len(noNames))]
	}
	return []string{"a", "b", "b-1", longest}[k.r.IntN(4)]
}

func (k *kept) put(i int) {
	name, n := k.name(), k.some()
	want := form.MatchString(name) && n >= 1 && n <= most && !in(k.books[i][name], n)
	if got := k.sets[i].Put(name, n); got != want {
		k.t.Errorf("Put(%q, %d): %t", name, n, got)
	}
	if want {
		k.books[i].tell(name, dedupe.Range{From: n, To: n + 1})
		k.met["new"]++
	} else {
		k.met["old"]++
	}
}

func (k *kept) merge(i, o int) {
	k.sets[i].Merge(k.sets[o])
	for name, l := range k.books[o] {
		k.books[i].tell(name, slices.Clone(l)...)
	}
	k.met["merged"]++
}

// decode puts one in a set's place that is decoded from its bytes.
func (k *kept) decode(i int) {
	s, err := dedupe.Decode(k.sets[i].Encode())
	if err != api.OK {
		k.t.Fatalf("%x: %d", k.sets[i].Encode(), err)
	}
	k.sets[i] = s
	k.met["decoded"]++
}

// stretch merges a set that has one range, of any length.
func (k *kept) stretch(i int) {
	from := 1 + k.r.IntN(30)
	to := from + 1 + k.r.IntN(12)
	if k.r.IntN(8) == 0 {
		to = most + 1 - k.r.IntN(9)
	}
	name := []string{"a", "b", "c"}[k.r.IntN(3)]
	k.sets[i].Merge(set(k.t, line(name, dedupe.Range{From: from, To: to})))
	k.books[i].tell(name, dedupe.Range{From: from, To: to})
	k.met["stretched"]++
}

// P7.1 to P7.3: any calls behind any calls, of three sets that are merged into one another, or decoded, on the way.
func TestAnyCalls(t *testing.T) {
	r := rand.New(rand.NewPCG(1, 7))
	met := map[string]int{}
	for range 400 {
		k := &kept{t: t, r: r, met: met}
		for i := range k.sets {
			k.sets[i], k.books[i] = dedupe.New(), book{}
		}
		for range 40 {
			i := r.IntN(3)
			switch r.IntN(16) {
			case 0:
				k.merge(i, r.IntN(3))
			case 1:
				k.decode(i)
			case 2:
				k.stretch(i)
			default:
				k.put(i)
			}
			for i, s := range k.sets {
				holds(t, s, k.books[i].lines()...)
			}
		}
		if t.Failed() {
			t.FailNow()
		}
	}
	for _, what := range []string{"new", "old", "merged", "decoded", "stretched"} {
		if met[what] < 500 {
			t.Errorf("%s was met %d times", what, met[what])
		}
	}
}

// P7.1: very many numbers, in order, and each second one first.
func TestManyNumbers(t *testing.T) {
	const many = 1 << 17
	s := dedupe.New()
	for n := 1; n <= many; n++ {
		if !s.Put("a", n) {
			t.Fatal(n)
		}
	}
	for n := 2; n <= many; n += 2 {
		if !s.Put("b", n) {
			t.Fatal(n)
		}
	}
	if s.Next("a") != many+1 || len(s.Ranges("a")) != 1 || s.Next("b") != 1 || len(s.Ranges("b")) != many/2 || s.Count() != many+many/2 {
		t.Error(s.Next("a"), len(s.Ranges("a")), s.Next("b"), len(s.Ranges("b")), s.Count())
	}
	for n := 1; n <= many; n++ {
		if s.Has("b", n) != (n%2 == 0) || s.Put("b", n) != (n%2 == 1) {
			t.Fatal(n)
		}
	}
	holds(t, s, "a 1-131073", "b 1-131073")
}
