package dedupe_test

import (
	"encoding/binary"
	"math"
	"slices"
	"strconv"
	"strings"
	"testing"

	"cicerone/api"
	"cicerone/dedupe"
)

// most is the greatest number, as one of its own and not as the limit of api.
const most = 1099511627776

var (
	// ends are numbers at both ends of what may be, below, between and above.
	ends = []int{math.MinInt, math.MinInt + 1, -most, -2, -1, 0, 1, 2, most - 1, most, most + 1, most + 2, 1 << 62, math.MaxInt - 1, math.MaxInt}
	// longest is a name of as many bytes as one may have.
	longest = strings.Repeat("z", 24)
	// noNames are texts that are no names.
	noNames = []string{"", "A", "aB", "a b", " a", "a ", "a_b", "a.b", "a/b", "a:b", "a`b", "a{b", "a@b", "a\nb", "a\x00", "\x00", "\x80", "\xff", "é", "a,", longest + "z", strings.Repeat("z", 256+24)}
)

// line is a source's name and its ranges, each as its From, the sign - and its To.
func line(source string, l ...dedupe.Range) string {
	for _, r := range l {
		source += " " + strconv.Itoa(r.From) + "-" + strconv.Itoa(r.To)
	}
	return source
}

// parted is the name and the ranges of a line.
func parted(t *testing.T, line string) (string, []dedupe.Range) {
	t.Helper()
	words := strings.Fields(line)
	var l []dedupe.Range
	for _, w := range words[1:] {
		from, to, _ := strings.Cut(w, "-")
		l = append(l, dedupe.Range{From: number(t, from), To: number(t, to)})
	}
	return words[0], l
}

func number(t *testing.T, word string) int {
	t.Helper()
	n, err := strconv.Atoi(word)
	if err != nil {
		t.Fatal(err)
	}
	return n
}

// bytesOf is the bytes of sources and their ranges.
func bytesOf(t *testing.T, lines ...string) []byte {
	t.Helper()
	b := binary.AppendUvarint(nil, uint64(len(lines)))
	for _, line := range lines {
		source, l := parted(t, line)
		b = append(append(b, byte(len(source))), source...)
		b = binary.AppendUvarint(b, uint64(len(l)))
		end := 1
		for _, r := range l {
			b = binary.AppendUvarint(b, uint64(r.From-end))
			b = binary.AppendUvarint(b, uint64(r.To-r.From))
			end = r.To
		}
	}
	return b
}

// in tells whether one of the ranges has n.
func in(l []dedupe.Range, n int) bool {
	return slices.ContainsFunc(l, func(r dedupe.Range) bool { return r.From <= n && n < r.To })
}

// holds asks a set all that can be asked, and the one that is decoded from its bytes too, and holds it against its lines.
func holds(t *testing.T, s *dedupe.Set, lines ...string) {
	t.Helper()
	asks(t, s, lines...)
	want := bytesOf(t, lines...)
	got := s.Encode()
	if string(got) != string(want) {
		t.Errorf("the bytes are %x, not %x", got, want)
	}
	again, err := dedupe.Decode(got)
	if err != api.OK || again == nil {
		t.Errorf("Decode(%x): %d", got, err)
		return
	}
	asks(t, again, lines...)
	if string(again.Encode()) != string(want) {
		t.Errorf("the decoded one's bytes are %x, not %x", again.Encode(), want)
	}
}

func asks(t *testing.T, s *dedupe.Set, lines ...string) {
	t.Helper()
	var names []string
	count := 0
	for _, line := range lines {
		source, l := parted(t, line)
		names = append(names, source)
		next := 1
		places := slices.Clone(ends)
		for _, r := range l {
			count += r.To - r.From
			if r.From == next {
				next = r.To
			}
			places = append(places, r.From-1, r.From, r.From+1, (r.From+r.To)/2, r.To-1, r.To, r.To+1)
		}
		if got := s.Ranges(source); !slices.Equal(got, l) {
			t.Errorf("Ranges(%q): %v, not %v", source, got, l)
		}
		if got := s.Next(source); got != next {
			t.Errorf("Next(%q): %d, not %d", source, got, next)
		}
		for _, n := range places {
			if got := s.Has(source, n); got != in(l, n) {
				t.Errorf("Has(%q, %d): %t", source, n, got)
			}
		}
	}
	if got := s.Sources(); !slices.Equal(got, names) {
		t.Errorf("Sources: %q, not %q", got, names)
	}
	if got := s.Count(); got != count {
		t.Errorf("Count: %d, not %d", got, count)
	}
	for _, other := range append([]string{"nobody"}, noNames...) {
		if s.Next(other) != 1 || len(s.Ranges(other)) != 0 || s.Has(other, 0) || s.Has(other, 1) || s.Has(other, most) {
			t.Errorf("of %q: %d, %v, %t", other, s.Next(other), s.Ranges(other), s.Has(other, 1))
		}
	}
}

// puts holds what a Put answers, and makes of a set, against what is to be.
func puts(t *testing.T, s *dedupe.Set, source string, n int, want bool, lines ...string) {
	t.Helper()
	if got := s.Put(source, n); got != want {
		t.Errorf("Put(%q, %d): %t", source, n, got)
	}
	holds(t, s, lines...)
}

// set is the set of lines.
func set(t *testing.T, lines ...string) *dedupe.Set {
	t.Helper()
	s, err := dedupe.Decode(bytesOf(t, lines...))
	if err != api.OK {
		t.Fatalf("%q: %d", lines, err)
	}
	return s
}

// all is the numbers from one up to another one, not with it.
func all(from, to int) []int {
	var l []int
	for n := from; n < to; n++ {
		l = append(l, n)
	}
	return l
}

// P7.1: a new set is one of nothing, and one of its own.
func TestNew(t *testing.T) {
	a, b := dedupe.New(), dedupe.New()
	holds(t, a)
	puts(t, a, "a", 1, true, "a 1-2")
	holds(t, b)
}

// P7.1: the chapter's examples.
func TestExamples(t *testing.T) {
	s := dedupe.New()
	puts(t, s, "a", 1, true, "a 1-2")
	puts(t, s, "a", 2, true, "a 1-3")
	puts(t, s, "a", 4, true, "a 1-3 4-5")
	if l := s.Ranges("a"); len(l) != 2 || l[0] != (dedupe.Range{From: 1, To: 3}) || l[1] != (dedupe.Range{From: 4, To: 5}) {
		t.Error(l)
	}
	if s.Next("a") != 3 || s.Count() != 3 {
		t.Error(s.Next("a"), s.Count())
	}
	if b := s.Encode(); string(b) != "\x01\x01\x61\x02\x00\x02\x01\x01" {
		t.Errorf("%x", b)
	}
}

// P7.1: numbers below, at, and above both ends.
func TestPutAtTheEnds(t *testing.T) {
	for _, n := range ends {
		s := dedupe.New()
		if n < 1 || n > most {
			puts(t, s, "a", n, false)
			continue
		}
		puts(t, s, "a", n, true, line("a", dedupe.Range{From: n, To: n + 1}))
		puts(t, s, "a", n, false, line("a", dedupe.Range{From: n, To: n + 1}))
	}
	s := dedupe.New()
	puts(t, s, "a", most, true, "a 1099511627776-1099511627777")
	puts(t, s, "a", 0, false, "a 1099511627776-1099511627777")
	puts(t, s, "a", 1, true, "a 1-2 1099511627776-1099511627777")
	puts(t, s, "a", most+1, false, "a 1-2 1099511627776-1099511627777")
	puts(t, s, "a", most-1, true, "a 1-2 1099511627775-1099511627777")
}

// P7.1: names of 1 and of 24 bytes, and of each byte that a name has.
func TestPutOfNames(t *testing.T) {
	const signs = "-0123456789abcdefghijklmnopqrstuvwxyz"
	s := dedupe.New()
	var lines []string
	for i := range len(signs) {
		name := signs[i : i+1]
		lines = append(lines, line(name, dedupe.Range{From: 7, To: 8}))
		puts(t, s, name, 7, true, lines...)
	}
	lines = append(lines, line(longest, dedupe.Range{From: 9, To: 10}))
	puts(t, s, longest, 9, true, lines...)
	puts(t, s, longest, 9, false, lines...)
}

// P7.1: of what is no name nothing is put, and nothing is there.
func TestPutOfNoNames(t *testing.T) {
	s := dedupe.New()
	for _, name := range noNames {
		puts(t, s, name, 1, false)
	}
	for i := range 256 {
		c := byte(i)
		if may := c >= 'a' && c <= 'z' || c >= '0' && c <= '9' || c == '-'; s.Put(string([]byte{'a', c, 'b'}), 1) != may {
			t.Errorf("a name with the byte %d", c)
		}
	}
	s = set(t, "a 1-3", "b 5-6")
	for _, name := range noNames {
		for _, n := range ends {
			if s.Put(name, n) || s.Has(name, n) {
				t.Errorf("%q, %d", name, n)
			}
		}
	}
	holds(t, s, "a 1-3", "b 5-6")
}

// P7.1: a number below, just below, in, just above, and above each range, and in each gap.
func TestPutNearRanges(t *testing.T) {
	const have = "a 4-7 8-9 11-13 16-17"
	for n, want := range map[int]string{
		1:  "a 1-2 4-7 8-9 11-13 16-17",
		2:  "a 2-3 4-7 8-9 11-13 16-17",
		3:  "a 3-7 8-9 11-13 16-17",
		4:  "",
		5:  "",
		6:  "",
		7:  "a 4-9 11-13 16-17",
		8:  "",
		9:  "a 4-7 8-10 11-13 16-17",
		10: "a 4-7 8-9 10-13 16-17",
		11: "",
		12: "",
		13: "a 4-7 8-9 11-14 16-17",
		14: "a 4-7 8-9 11-13 14-15 16-17",
		15: "a 4-7 8-9 11-13 15-17",
		16: "",
		17: "a 4-7 8-9 11-13 16-18",
		18: "a 4-7 8-9 11-13 16-17 18-19",
	} {
		s := set(t, have, "b 1-9")
		if want == "" {
			puts(t, s, "a", n, false, have, "b 1-9")
		} else {
			puts(t, s, "a", n, true, want, "b 1-9")
			puts(t, s, "a", n, false, want, "b 1-9")
		}
	}
}

// P7.1: gaps of one close until one range is left.
func TestPutClosesGaps(t *testing.T) {
	s := dedupe.New()
	for _, n := range []int{2, 4, 6, 8} {
		s.Put("a", n)
	}
	holds(t, s, "a 2-3 4-5 6-7 8-9")
	puts(t, s, "a", 5, true, "a 2-3 4-7 8-9")
	puts(t, s, "a", 3, true, "a 2-7 8-9")
	puts(t, s, "a", 7, true, "a 2-9")
	puts(t, s, "a", 1, true, "a 1-9")
	puts(t, s, "a", 9, true, "a 1-10")
	for n := range 10 {
		puts(t, s, "a", n, false, "a 1-10")
	}
}

// P7.1: sources have numbers of their own.
func TestPutOfSources(t *testing.T) {
	s := dedupe.New()
	puts(t, s, "b", 1, true, "b 1-2")
	puts(t, s, "a", 1, true, "a 1-2", "b 1-2")
	puts(t, s, "ab", 2, true, "a 1-2", "ab 2-3", "b 1-2")
	puts(t, s, "b", 3, true, "a 1-2", "ab 2-3", "b 1-2 3-4")
	puts(t, s, "a", 2, true, "a 1-3", "ab 2-3", "b 1-2 3-4")
	puts(t, s, "ab", 1, true, "a 1-3", "ab 1-3", "b 1-2 3-4")
	puts(t, s, "b", 1, false, "a 1-3", "ab 1-3", "b 1-2 3-4")
}

// P7.1: the least number that a source hasn't.
func TestNext(t *testing.T) {
	for line, want := range map[string]int{
		"a 1-2":                         2,
		"a 1-3 4-5":                     3,
		"a 2-3":                         1,
		"a 2-4 5-6":                     1,
		"a 1-1099511627776":             most,
		"a 1-1099511627777":             most + 1,
		"a 2-1099511627777":             1,
		"a 1099511627776-1099511627777": 1,
	} {
		s := set(t, line)
		if got := s.Next("a"); got != want {
			t.Errorf("%s: %d, not %d", line, got, want)
		}
		holds(t, s, line)
	}
	s := set(t, "a 1-1099511627776")
	puts(t, s, "a", most, true, "a 1-1099511627777")
	puts(t, s, "a", most, false, "a 1-1099511627777")
	puts(t, s, "a", most+1, false, "a 1-1099511627777")
}

// P7.1: sources rise byte by byte, whatever order they came in.
func TestSources(t *testing.T) {
	s := dedupe.New()
	for i, name := range []string{"zz", "b", "a", "-", "0", "a-b", "9", "10", "a0", "aa", longest, "-0"} {
		s.Put(name, i+1)
	}
	want := []string{"-", "-0", "0", "10", "9", "a", "a-b", "a0", "aa", "b", "zz", longest}
	if got := s.Sources(); !slices.Equal(got, want) {
		t.Errorf("%q", got)
	}
	holds(t, s, "- 4-5", "-0 12-13", "0 5-6", "10 8-9", "9 7-8", "a 3-4", "a-b 6-7", "a0 9-10", "aa 10-11", "b 2-3", "zz 1-2", longest+" 11-12")
}

// P7.1: what is asked changes nothing.
func TestAskingChangesNothing(t *testing.T) {
	s := dedupe.New()
	for range 3 {
		s.Has("a", 1)
		s.Next("a")
		s.Ranges("a")
		s.Sources()
		s.Count()
		s.Encode()
		holds(t, s)
	}
	s = set(t, "a 1-3 5-6", "b 9-10")
	for range 3 {
		s.Has("c", 1)
		s.Next("c")
		s.Ranges("c")
		holds(t, s, "a 1-3 5-6", "b 9-10")
	}
}
