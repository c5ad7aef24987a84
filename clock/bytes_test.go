package clock_test

import (
	"math/big"
	"regexp"
	"strings"
	"testing"

	"cicerone/api"
	"cicerone/clock"
)

// form is what the bytes of a clock look like, whatever the numbers.
var form = regexp.MustCompile(`\Aclock (0|[1-9][0-9]*) (0|[1-9][0-9]*) (0|[1-9][0-9]*) (-1|0|[1-9][0-9]*)\n(?:[a-z0-9-]{1,24} (?:0|[1-9][0-9]*) (?:0|[1-9][0-9]*)\n)*\z`)

// mayBe tells whether a text is that of a clock that may be, by numbers of any length.
func mayBe(s string) bool {
	if !form.MatchString(s) {
		return false
	}
	lines := strings.Split(strings.TrimSuffix(s, "\n"), "\n")
	first := long(lines[0])
	slack, idle, now, mark := first[0], first[1], first[2], first[3]
	limit := new(big.Int).Lsh(big.NewInt(1), 40)
	for _, n := range first {
		if n.Cmp(limit) > 0 {
			return false
		}
	}
	ahead := ""
	var told *big.Int
	for _, line := range lines[1:] {
		name, _, _ := strings.Cut(line, " ")
		at, last := long(line)[0], long(line)[1]
		if name <= ahead || at.Cmp(limit) > 0 || last.Cmp(now) > 0 {
			return false
		}
		ahead = name
		if active := idle.Sign() == 0 || new(big.Int).Add(last, idle).Cmp(now) >= 0; active && (told == nil || at.Cmp(told) < 0) {
			told = at
		}
	}
	if told == nil {
		return true
	}
	// the mark is at least told - slack - 1
	sum := new(big.Int).Add(mark, slack)
	return sum.Add(sum, big.NewInt(1)).Cmp(told) >= 0
}

// long is the numbers of a line.
func long(line string) []*big.Int {
	var all []*big.Int
	for _, w := range strings.Split(line, " ")[1:] {
		n, ok := new(big.Int).SetString(w, 10)
		if !ok {
			panic(line)
		}
		all = append(all, n)
	}
	return all
}

// decodes holds what Decode makes of a text against what it has to make of it.
func decodes(t *testing.T, s string, want bool) {
	t.Helper()
	c, err := clock.Decode([]byte(s))
	if !want {
		if c != nil || err != api.ErrForm {
			t.Errorf("%q: %v, %d", s, c, err)
		}
		return
	}
	if c == nil || err != api.OK {
		t.Errorf("%q: %v, %d", s, c, err)
		return
	}
	holds(t, c, strings.Split(strings.TrimSuffix(s, "\n"), "\n")...)
}

// P6.3: the bytes of an empty clock, and of one with several sources.
func TestEncode(t *testing.T) {
	holds(t, clock.New(3, 0), "clock 3 0 0 -1")
	c := clock.New(most, most)
	c.Tick(most)
	holds(t, c, spaced("clock", most, most, most, -1))
	c.Hear("a", most, 0)
	holds(t, c, spaced("clock", most, most, most, -1), spaced("a", most, most))
	c = clock.New(12, 34)
	for i, name := range []string{"zz", "b", "a", "-", "0", "a-b", "clock", strings.Repeat("y", 24)} {
		c.Hear(name, 100-i, 7*i)
	}
	holds(t, c, "clock 12 34 49 87", "- 97 21", "0 96 28", "a 98 14", "a-b 95 35", "b 99 7", "clock 94 42", strings.Repeat("y", 24)+" 93 49", "zz 100 0")
}

// P6.3: the texts of clocks that may be, and what differs from them by a little.
func TestDecode(t *testing.T) {
	long := strings.Repeat("9", 30)
	name := strings.Repeat("x", 24)
	for s, want := range map[string]bool{
		"clock 0 0 0 -1\n":            true,
		"clock 3 10 0 -1\n":           true,
		"clock 0 0 0 5\n":             true, // without a source the mark may be any
		"clock 0 0 9 1099511627776\n": true,
		"clock 1099511627776 1099511627776 1099511627776 1099511627776\n": true,
		"clock 1 4 5 5\na 9 5\nb-1 7 2\n":                                 true,
		"clock 0 0 0 -1\na 0 0\n":                                         true,
		"clock 0 0 0 0\nclock 1 0\n":                                      true,
		"clock 0 0 0 0\n-1 1 0\n":                                         true,
		"clock 0 0 0 0\n" + name + " 1 0\n":                               true,
		"clock 0 0 0 0\n- 1 0\n0 1 0\na 1 0\na- 1 0\na0 1 0\naa 1 0\n":    true,

		// no bytes, other first words, words too few, too many
		"":                               false,
		"\n":                             false,
		"clock":                          false,
		"clock\n":                        false,
		"clock ":                         false,
		"clock 0":                        false,
		"clock 0 0 0\n":                  false,
		"clock 0 0 -1\n":                 false,
		"clock 0 0 0 -1 \n":              false,
		"clock 0 0 0 -1 0\n":             false,
		"clock 0 0 0 0 -1\n":             false,
		"0 0 0 -1\n":                     false,
		" 0 0 0 -1\n":                    false,
		"Clock 0 0 0 -1\n":               false,
		"clocks 0 0 0 -1\n":              false,
		"cloc 0 0 0 -1\n":                false,
		"a 0 0 0 -1\n":                   false,
		"clock 0 0 0 0\na\n":             false,
		"clock 0 0 0 0\na 1\n":           false,
		"clock 0 0 0 0\na 1 \n":          false,
		"clock 0 0 0 0\na 1 0 \n":        false,
		"clock 0 0 0 0\na 1 0 0\n":       false,
		"a 1 0\nclock 0 0 0 0\n":         false,
		"clock 0 0 0 0\nclock 0 0 0 0\n": false,

		// line feeds and blanks
		"clock 0 0 0 -1":                  false,
		"clock 0 0 0 -1\n\n":              false,
		"\nclock 0 0 0 -1\n":              false,
		"clock 0 0 0 -1\r\n":              false,
		"clock 0 0 0 -1\x00\n":            false,
		"clock 0 0 0 -1\n\x00":            false,
		"clock 0 0 0 -1\n ":               false,
		"clock  0 0 0 -1\n":               false,
		"clock 0 0  0 -1\n":               false,
		"clock 0 0 0  -1\n":               false,
		" clock 0 0 0 -1\n":               false,
		"clock\t0 0 0 -1\n":               false,
		"clock\n0 0 0 -1\n":               false,
		"clock 0\n0 0 -1\n":               false,
		"clock 0 0 0\n-1\n":               false,
		"clock 0 0 0 0\na 1 0":            false,
		"clock 0 0 0 0\na 1 0\n\n":        false,
		"clock 0 0 0 0\n\na 1 0\n":        false,
		"clock 0 0 0 0\na 1 0\n\nb 1 0\n": false,
		"clock 0 0 0 0\na  1 0\n":         false,
		"clock 0 0 0 0\n a 1 0\n":         false,
		"clock 0 0 0 0\na 1 0 b 1 0\n":    false,
		"clock 0 0 0 0 a 1 0\n":           false,

		// numbers: noughts ahead, signs, what is no number
		"clock 00 0 0 -1\n":        false,
		"clock 01 0 0 -1\n":        false,
		"clock 0 00 0 -1\n":        false,
		"clock 0 01 0 -1\n":        false,
		"clock 0 0 00 -1\n":        false,
		"clock 0 0 01 -1\n":        false,
		"clock 0 0 0 00\n":         false,
		"clock 0 0 0 01\n":         false,
		"clock 0 0 0 -01\n":        false,
		"clock 0 0 0 -0\n":         false,
		"clock -0 0 0 -1\n":        false,
		"clock 0 -0 0 -1\n":        false,
		"clock 0 0 -0 -1\n":        false,
		"clock +0 0 0 -1\n":        false,
		"clock 0 +0 0 -1\n":        false,
		"clock 0 0 +0 -1\n":        false,
		"clock 0 0 0 +1\n":         false,
		"clock 0 0 0 -\n":          false,
		"clock 0 0 0 --1\n":        false,
		"clock 0 0 0 \n":           false,
		"clock 0 0 0 a\n":          false,
		"clock 0x1 0 0 -1\n":       false,
		"clock 1_0 0 0 -1\n":       false,
		"clock 1e1 0 0 -1\n":       false,
		"clock 1.0 0 0 -1\n":       false,
		"clock ٣ 0 0 -1\n":         false,
		"clock 0 0 0 0\na 01 0\n":  false,
		"clock 0 0 0 0\na +1 0\n":  false,
		"clock 0 0 0 0\na 1 00\n":  false,
		"clock 0 0 0 0\na 1 +0\n":  false,
		"clock 0 0 0 0\na 1 -0\n":  false,
		"clock 0 0 0 0\na -0 0\n":  false,
		"clock 0 0 0 0\na one 0\n": false,

		// numbers: out of bounds, longer than any int
		"clock -1 0 0 -1\n":                              false,
		"clock 0 -1 0 -1\n":                              false,
		"clock 0 0 -1 -1\n":                              false,
		"clock 0 0 0 -2\n":                               false,
		"clock 1099511627777 0 0 -1\n":                   false,
		"clock 0 1099511627777 0 -1\n":                   false,
		"clock 0 0 1099511627777 -1\n":                   false,
		"clock 0 0 0 1099511627777\n":                    false,
		"clock 9223372036854775807 0 0 -1\n":             false,
		"clock 9223372036854775808 0 0 -1\n":             false,
		"clock 18446744073709551616 0 0 -1\n":            false, // 2^64, which would be 0 to a number that goes round
		"clock 0 18446744073709551616 0 -1\n":            false,
		"clock 0 0 18446744073709551616 -1\n":            false,
		"clock 0 0 0 18446744073709551615\n":             false,
		"clock 0 0 0 -9223372036854775808\n":             false,
		"clock 0 0 0 -18446744073709551617\n":            false,
		"clock " + long + " 0 0 -1\n":                    false,
		"clock 0 0 0 " + long + "\n":                     false,
		"clock 0 0 0 0\na -1 0\n":                        false,
		"clock 0 0 0 0\na 1 -1\n":                        false,
		"clock 0 0 0 1099511627776\na 1099511627776 0\n": true,
		"clock 0 0 0 1099511627776\na 1099511627777 0\n": false,
		"clock 0 0 0 0\na 18446744073709551617 0\n":      false,
		"clock 0 0 0 0\na 1 18446744073709551616\n":      false,
		"clock 0 0 0 0\na " + long + " 0\n":              false,
		"clock 0 0 0 0\na 1 " + long + "\n":              false,
		"clock 0 0 1099511627776 0\na 1 1099511627776\n": true,
		"clock 0 0 1099511627776 0\na 1 1099511627777\n": false,

		// names
		"clock 0 0 0 0\n 1 0\n":                    false,
		"clock 0 0 0 0\nA 1 0\n":                   false,
		"clock 0 0 0 0\n. 1 0\n":                   false,
		"clock 0 0 0 0\n\xff 1 0\n":                false,
		"clock 0 0 0 0\né 1 0\n":                   false,
		"clock 0 0 0 0\na\x00 1 0\n":               false,
		"clock 0 0 0 0\n" + name + "x 1 0\n":       false,
		"clock 0 0 0 0\n" + name + name + " 1 0\n": false,

		// sources that don't rise, or stand there twice
		"clock 0 0 0 0\na 1 0\nb 1 0\n":        true,
		"clock 0 0 0 0\nb 1 0\na 1 0\n":        false,
		"clock 0 0 0 0\na 1 0\na 1 0\n":        false,
		"clock 0 0 0 0\na 1 0\na 2 0\n":        false,
		"clock 0 0 0 0\na 1 0\nb 1 0\na 1 0\n": false,
		"clock 0 0 0 0\naa 1 0\na 1 0\n":       false,
		"clock 0 0 0 0\na 1 0\n- 1 0\n":        false,
		"clock 0 0 0 0\n10 1 0\n9 1 0\n":       true,
		"clock 0 0 0 0\n9 1 0\n10 1 0\n":       false,

		// heard later than now
		"clock 0 0 5 0\na 1 5\n":        true,
		"clock 0 0 5 0\na 1 6\n":        false,
		"clock 0 0 5 0\na 1 5\nb 1 6\n": false,
		"clock 0 2 5 9\na 1 6\n":        false,

		// a mark below what the sources tell
		"clock 0 0 0 -1\na 1 0\n":                         false,
		"clock 0 0 0 0\na 1 0\n":                          true,
		"clock 0 0 0 1\na 1 0\n":                          true,
		"clock 3 0 0 5\na 10 0\n":                         false,
		"clock 3 0 0 6\na 10 0\n":                         true,
		"clock 3 0 0 6\na 10 0\nb 11 0\n":                 true,
		"clock 3 0 0 6\na 11 0\nb 11 0\n":                 false,
		"clock 3 0 0 -1\na 10 0\nb 2 0\n":                 true,
		"clock 3 0 0 -1\na 10 0\nb 3 0\n":                 true,
		"clock 3 0 0 -1\na 10 0\nb 4 0\n":                 false,
		"clock 0 4 4 -1\na 0 0\nb 9 4\n":                  true, // a is just active
		"clock 0 4 5 -1\na 0 0\nb 9 4\n":                  false,
		"clock 0 4 5 7\na 0 0\nb 9 4\n":                   false,
		"clock 0 4 5 8\na 0 0\nb 9 4\n":                   true,
		"clock 0 4 9 -1\na 0 0\nb 9 4\n":                  true, // no active one
		"clock 0 0 9 -1\na 0 0\nb 9 4\n":                  true,
		"clock 1099511627776 0 0 -1\na 1099511627776 0\n": true,
		"clock 1099511627775 0 0 -1\na 1099511627776 0\n": false,
		"clock 1099511627775 0 0 0\na 1099511627776 0\n":  true,
		"clock 0 0 0 1099511627774\na 1099511627776 0\n":  false,
		"clock 0 0 0 1099511627775\na 1099511627776 0\n":  true,
	} {
		if mayBe(s) != want {
			t.Errorf("the test itself tells otherwise of %q", s)
		}
		decodes(t, s, want)
	}
	if c, err := clock.Decode(nil); c != nil || err != api.ErrForm {
		t.Error(c, err)
	}
}

// P6.3: each byte of a clock's bytes another one, left out, or one more; each piece of them, and each line elsewhere.
func TestDecodeOfAnyChange(t *testing.T) {
	for _, s := range []string{
		"clock 3 10 0 -1\n",
		"clock 1 4 5 5\na 9 5\nb-1 7 2\n",
		"clock 1099511627776 10 1099511627776 1099511627775\na 1099511627776 1099511627776\nab 9 1099511627766\n",
		"clock 0 9 20 8\n- 9 11\nclock 3 10\n" + strings.Repeat("z", 24) + " 20 20\n",
	} {
		if !mayBe(s) {
			t.Fatalf("%q may not be", s)
		}
		count := 0
		is := func(s string) {
			want := mayBe(s)
			decodes(t, s, want)
			if want {
				count++
			}
		}
		for i := range len(s) + 1 {
			is(s[:i])
			is(s[i:])
			is(s + s[i:])
			is(s[:i] + s)
			for b := range 256 {
				is(s[:i] + string([]byte{byte(b)}) + s[i:])
			}
			if i == len(s) {
				continue
			}
			is(s[:i] + s[i+1:])
			for b := range 256 {
				is(s[:i] + string([]byte{byte(b)}) + s[i+1:])
			}
		}
		lines := strings.SplitAfter(s, "\n")
		for i := range lines {
			for k := range lines {
				changed := append([]string{}, lines...)
				changed[i], changed[k] = changed[k], changed[i]
				is(strings.Join(changed, ""))
				changed[i] = changed[k]
				is(strings.Join(changed, ""))
			}
		}
		if count < 10 {
			t.Errorf("of what is near %q only %d are a clock's", s, count)
		}
	}
}

// P6.3: of other kinds of bytes, the clock's beside them.
func TestDecodeOfLongBytes(t *testing.T) {
	for _, s := range []string{strings.Repeat("a", 1<<20), strings.Repeat(" ", 1<<20), strings.Repeat("\n", 1<<20), strings.Repeat("clock ", 1<<18), strings.Repeat("clock 0 0 0 -1\n", 1<<16)} {
		decodes(t, s, false)
		decodes(t, "clock 0 0 0 0\n"+s, false)
		decodes(t, "clock 0 0 0 0\na "+s, false)
	}
}

// P6.3: a clock's bytes are those of no other one.
func TestBytesOfUnlikeClocks(t *testing.T) {
	seen := map[string]bool{}
	for _, slack := range []int{0, 1} {
		for _, idle := range []int{0, 1} {
			for _, now := range []int{0, 1} {
				for _, name := range []string{"", "a", "b"} {
					for _, at := range []int{0, 1} {
						c := clock.New(slack, idle)
						c.Hear(name, at, now)
						seen[string(c.Encode())] = true
					}
				}
			}
		}
	}
	if len(seen) != 8*(2+2+1) {
		t.Error(len(seen))
	}
}
