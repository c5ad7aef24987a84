package dedupe_test

import (
	"encoding/binary"
	"math/rand/v2"
	"regexp"
	"slices"
	"strings"
	"testing"

	"cicerone/api"
	"cicerone/dedupe"
)

var form = regexp.MustCompile(`\A[a-z0-9-]{1,24}\z`)

// read is the lines whose bytes b is, or what is wrong first, by another way than the program's: what is wrong ends it at once.
func read(b []byte) (lines []string, err api.Errno) {
	defer func() {
		if wrong, ok := recover().(api.Errno); ok {
			lines, err = nil, wrong
		}
	}()
	refuse := func(wrong bool, err api.Errno) {
		if wrong {
			panic(err)
		}
	}
	number := func() int {
		i := 0
		for ; ; i++ {
			refuse(i == len(b), api.ErrTorn)
			refuse(i == 5 && b[i] > 127, api.ErrForm)
			refuse(i > 0 && b[i] == 0, api.ErrForm)
			if b[i] < 128 {
				break
			}
		}
		n, _ := binary.Uvarint(b[:i+1])
		b = b[i+1:]
		return int(n)
	}
	for sources := number(); len(lines) < sources; {
		refuse(len(b) == 0 || len(b) <= int(b[0]), api.ErrTorn)
		behind := 1 + int(b[0])
		name := string(b[1:behind])
		b = b[behind:]
		refuse(!form.MatchString(name), api.ErrForm)
		refuse(slices.ContainsFunc(lines, func(l string) bool { return strings.Fields(l)[0] >= name }), api.ErrForm)
		var l []dedupe.Range
		ranges := number()
		refuse(ranges == 0, api.ErrForm)
		end := 1
		for len(l) < ranges {
			from := end + number()
			refuse(from == end && len(l) > 0, api.ErrForm)
			end = from + number()
			refuse(end == from || end > most+1, api.ErrForm)
			l = append(l, dedupe.Range{From: from, To: end})
		}
		lines = append(lines, line(name, l...))
	}
	refuse(len(b) > 0, api.ErrForm)
	return lines, api.OK
}

// decodes holds what Decode makes of bytes against what read makes of them, and tells it.
func decodes(t *testing.T, b []byte) api.Errno {
	t.Helper()
	lines, want := read(b)
	was := slices.Clone(b)
	s, err := dedupe.Decode(b)
	switch {
	case !slices.Equal(b, was):
		t.Errorf("Decode changed %x to %x", was, b)
	case err != want || (s != nil) != (want == api.OK):
		t.Errorf("Decode(%x): %v, %d, not %d", b, s, err, want)
	case err == api.OK && string(s.Encode()) != string(b):
		t.Errorf("Decode(%x) has the bytes %x", b, s.Encode())
	case err == api.OK:
		asks(t, s, lines...)
	}
	return want
}

// P7.1: the bytes of an empty set, of one with several sources, and of great numbers.
func TestEncode(t *testing.T) {
	for _, x := range []struct {
		want  string
		lines []string
	}{
		{"\x00", nil},
		{"\x01\x01a\x02\x00\x02\x01\x01", []string{"a 1-3 4-5"}},
		{"\x01\x01a\x01\x00\x01", []string{"a 1-2"}},
		{"\x01\x01a\x01\x01\x01", []string{"a 2-3"}},
		{"\x01\x01a\x01\x7f\x7f", []string{"a 128-255"}},
		{"\x01\x01a\x01\x80\x01\x80\x01", []string{"a 129-257"}},
		{"\x01\x01a\x01\xff\x7f\xff\x7f", []string{"a 16384-32767"}},
		{"\x01\x01a\x01\x80\x80\x01\x80\x80\x01", []string{"a 16385-32769"}},
		{"\x01\x01a\x01\xff\xff\xff\xff\xff\x1f\x01", []string{"a 1099511627776-1099511627777"}},
		{"\x01\x01a\x01\x00\x80\x80\x80\x80\x80\x20", []string{"a 1-1099511627777"}},
		{"\x01\x01a\x02\x00\x01\xfe\xff\xff\xff\xff\x1f\x01", []string{"a 1-2 1099511627776-1099511627777"}},
		{"\x01\x18" + longest + "\x01\x04\x05", []string{longest + " 5-10"}},
		{"\x03\x01-\x01\x00\x01\x01a\x03\x02\x01\x01\x02\xac\x02\x03\x02a0\x01\x00\xac\x02", []string{"- 1-2", "a 3-4 5-7 307-310", "a0 1-301"}},
	} {
		s := dedupe.New()
		for i := range x.lines {
			source, l := parted(t, x.lines[len(x.lines)-1-i])
			for _, r := range l {
				if r.To-r.From > 1<<16 {
					s.Merge(set(t, line(source, r)))
					continue
				}
				for _, n := range all(r.From, r.To) {
					s.Put(source, n)
				}
			}
		}
		if got := s.Encode(); string(got) != x.want {
			t.Errorf("%q: %x, not %x", x.lines, got, x.want)
		}
		holds(t, s, x.lines...)
		if err := decodes(t, []byte(x.want)); err != api.OK {
			t.Errorf("%x: %d", x.want, err)
		}
	}
}

// P7.1: more than 127 sources, and more than 127 ranges of one.
func TestEncodeMany(t *testing.T) {
	s := dedupe.New()
	var l []dedupe.Range
	for i := range 300 {
		s.Put("m", 2*i+1)
		l = append(l, dedupe.Range{From: 2*i + 1, To: 2*i + 2})
	}
	lines := []string{line("m", l...)}
	holds(t, s, lines...)
	for c := range 26 {
		for d := range 26 {
			name := string([]byte{'a' + byte(c), 'a' + byte(d)})
			s.Put(name, 5)
			lines = append(lines, name+" 5-6")
		}
	}
	slices.Sort(lines)
	holds(t, s, lines...)
	if b := s.Encode(); string(b[:2]) != "\xa5\x05" {
		t.Errorf("%x", b[:2])
	}
}

// one is the bytes of a set in which a has 1.
const one = "\x01\x01a\x01\x00\x01"

// tells holds what Decode makes of each of the bytes against what is to be.
func tells(t *testing.T, all map[string]api.Errno) {
	t.Helper()
	for b, want := range all {
		if got := decodes(t, []byte(b)); got != want {
			t.Errorf("the test itself tells %d of %x, not %d", got, b, want)
		}
	}
}

// P7.1: the bytes end ahead of something's end.
func TestDecodeThatEnds(t *testing.T) {
	tells(t, map[string]api.Errno{
		"":                                  api.ErrTorn,
		"\x80":                              api.ErrTorn,
		"\xff\xff\xff\xff\xff":              api.ErrTorn,
		"\x01":                              api.ErrTorn,
		"\x01\x01":                          api.ErrTorn,
		"\x01\x02a":                         api.ErrTorn,
		"\x01\x01a":                         api.ErrTorn,
		"\x01\x01a\x80":                     api.ErrTorn,
		"\x01\x01a\x01":                     api.ErrTorn,
		"\x01\x01a\x01\x80":                 api.ErrTorn,
		"\x01\x01a\x01\x00":                 api.ErrTorn,
		"\x01\x01a\x01\x00\xff":             api.ErrTorn,
		"\x01\x01a\x02\x00\x01":             api.ErrTorn,
		"\x01\x01a\x02\x00\x01\x01":         api.ErrTorn,
		"\x02" + one[1:]:                    api.ErrTorn,
		"\x02" + one[1:] + "\x01":           api.ErrTorn,
		"\xff\xff\xff\xff\xff\x7f":          api.ErrTorn, // so many sources
		"\xff\xff\xff\xff\xff\x7f\x01a":     api.ErrTorn,
		"\x01\x01a\xff\xff\xff\xff\xff\x7f": api.ErrTorn, // so many ranges
	})
	if s, err := dedupe.Decode(nil); s != nil || err != api.ErrTorn {
		t.Error(s, err)
	}
}

// P7.1: bytes are left.
func TestDecodeWithBytesLeft(t *testing.T) {
	tells(t, map[string]api.Errno{
		"\x00\x00":     api.ErrForm,
		"\x00\x80":     api.ErrForm,
		"\x00" + one:   api.ErrForm,
		one:            api.OK,
		one + "\x00":   api.ErrForm,
		one + "\x01":   api.ErrForm,
		one + one:      api.ErrForm,
		one + one[1:]:  api.ErrForm,
		one + "\x80":   api.ErrForm,
		one + "\xffzz": api.ErrForm,
	})
}

// P7.1: a number that goes on behind its sixth group, or ends in a group of 0.
func TestDecodeNumbers(t *testing.T) {
	tells(t, map[string]api.Errno{
		"\x80\x00":                                         api.ErrForm,
		"\x81\x00":                                         api.ErrForm,
		"\x81\x80\x00":                                     api.ErrForm,
		"\x80\x80\x80\x80\x80\x00":                         api.ErrForm,
		"\x80\x80\x80\x80\x80\x80":                         api.ErrForm,
		"\xff\xff\xff\xff\xff\xff":                         api.ErrForm,
		"\x80\x80\x80\x80\x80\x80\x00":                     api.ErrForm,
		"\x80\x80\x80\x80\x80\x80\x01":                     api.ErrForm,
		"\x81\x00" + one[1:]:                               api.ErrForm,
		"\x81\x80\x80\x80\x80\x00" + one[1:]:               api.ErrForm,
		"\x81\x80\x80\x80\x80\x80\x00" + one[1:]:           api.ErrForm,
		"\x01\x01a\x81\x00\x00\x01":                        api.ErrForm,
		"\x01\x01a\x80\x00":                                api.ErrForm,
		"\x01\x01a\x81\x80\x80\x80\x80\x80\x01":            api.ErrForm,
		"\x01\x01a\x01\x80\x00\x01":                        api.ErrForm,
		"\x01\x01a\x01\x80\x80\x80\x80\x80\x80\x01\x01":    api.ErrForm,
		"\x01\x01a\x01\x00\x81\x00":                        api.ErrForm,
		"\x01\x01a\x01\x00\x80\x00":                        api.ErrForm,
		"\x01\x01a\x01\x00\x81\x80\x80\x80\x80\x80":        api.ErrForm,
		"\x01\x01a\x02\x00\x01\x81\x00\x01":                api.ErrForm,
		"\x01\x01a\x02\x00\x01\x01\x81\x00":                api.ErrForm,
		"\x01\x01a\x01\x80\x80\x80\x80\x80\x01\x01":        api.OK,
		"\x01\x01a\x01\x80\x80\x80\x80\x80\x00\x01":        api.ErrForm,
		"\x01\x01a\x01\x81\x80\x80\x80\x80\x80\x00\x01":    api.ErrForm,
		"\x01\x01a\x01\x00\x81\x80\x80\x80\x80\x01":        api.OK,
		"\x02" + one[1:] + "\x01b\x81\x00\x00\x01":         api.ErrForm,
		"\x02" + one[1:] + "\x01b\x01\x00\x81\x80\x80\x00": api.ErrForm,
	})
}

// P7.1: a name that isn't one, that stands there twice, that isn't above the one ahead.
func TestDecodeNames(t *testing.T) {
	name25 := longest + "z"
	tells(t, map[string]api.Errno{
		"\x01\x00\x01\x00\x01":                                          api.ErrForm,
		"\x01\x01A\x01\x00\x01":                                         api.ErrForm,
		"\x01\x02a\n\x01\x00\x01":                                       api.ErrForm,
		"\x01\x02\x00a\x01\x00\x01":                                     api.ErrForm,
		"\x01\x02\xc3\xa9\x01\x00\x01":                                  api.ErrForm,
		"\x01\x18" + longest + "\x01\x00\x01":                           api.OK,
		"\x01\x19" + name25 + "\x01\x00\x01":                            api.ErrForm,
		"\x01\x80" + strings.Repeat("z", 128) + "\x01\x00\x01":          api.ErrForm,
		"\x01\xff" + strings.Repeat("z", 255) + "\x01\x00\x01":          api.ErrForm,
		"\x01\x81\x00a\x01\x00\x01":                                     api.ErrTorn, // one byte tells how long it is: 129
		"\x02" + one[1:] + "\x01b\x01\x00\x01":                          api.OK,
		"\x02" + one[1:] + "\x01a\x01\x00\x01":                          api.ErrForm,
		"\x02" + one[1:] + "\x01a\x01\x01\x01":                          api.ErrForm,
		"\x02" + one[1:] + "\x01-\x01\x00\x01":                          api.ErrForm,
		"\x02" + one[1:] + "\x019\x01\x00\x01":                          api.ErrForm,
		"\x02" + one[1:] + "\x00\x01\x00\x01":                           api.ErrForm,
		"\x02" + one[1:] + "\x02aa\x01\x00\x01":                         api.OK,
		"\x02\x02aa\x01\x00\x01" + one[1:]:                              api.ErrForm,
		"\x02\x02aa\x01\x00\x01\x01b\x01\x00\x01":                       api.OK,
		"\x02\x01b\x01\x00\x01\x02aa\x01\x00\x01":                       api.ErrForm,
		"\x03" + one[1:] + "\x01b\x01\x00\x01\x01a\x01\x00\x01":         api.ErrForm,
		"\x03" + one[1:] + "\x01c\x01\x00\x01\x01b\x01\x00\x01":         api.ErrForm,
		"\x03" + one[1:] + "\x01b\x01\x00\x01\x01c\x01\x00\x01":         api.OK,
		"\x02" + one[1:] + "\x02a\x80\x01\x00\x01":                      api.ErrForm,
		"\x02\x01a\x01\x00\x01\x01B\x01\x00\x01":                        api.ErrForm,
		"\x02\x01z\x01\x00\x01\x18" + longest + "\x01\x00\x01":          api.OK,
		"\x02\x18" + longest + "\x01\x00\x01\x01z\x01\x00\x01":          api.ErrForm,
		"\x02\x18" + longest + "\x01\x00\x01\x19" + name25 + "\x01\x00": api.ErrForm,
	})
}

// P7.1: no ranges, a gap of 0, no numbers, an end that is too far.
func TestDecodeRanges(t *testing.T) {
	tells(t, map[string]api.Errno{
		"\x01\x01a\x00":                                     api.ErrForm,
		"\x01\x01a\x00\x00\x01":                             api.ErrForm,
		"\x02" + one[1:] + "\x01b\x00":                      api.ErrForm,
		"\x02\x01a\x00\x01b\x01\x00\x01":                    api.ErrForm,
		"\x01\x01a\x02\x00\x01\x00\x01":                     api.ErrForm,
		"\x01\x01a\x02\x01\x01\x00\x01":                     api.ErrForm,
		"\x01\x01a\x03\x00\x01\x01\x01\x00\x01":             api.ErrForm,
		"\x01\x01a\x01\x00\x00":                             api.ErrForm,
		"\x01\x01a\x01\x01\x00":                             api.ErrForm,
		"\x01\x01a\x02\x00\x01\x01\x00":                     api.ErrForm,
		"\x01\x01a\x02\x00\x00\x01\x01":                     api.ErrForm,
		"\x02" + one[1:] + "\x01b\x02\x00\x01\x01\x01":      api.OK, // the first gap of each source may be 0
		"\x02" + one[1:] + "\x01b\x02\x00\x01\x00\x01":      api.ErrForm,
		"\x01\x01a\x01\xff\xff\xff\xff\xff\x1f\x00":         api.ErrForm,
		"\x01\x01a\x01\x80\x80\x80\x80\x80\x20\x00":         api.ErrForm,
		"\x01\x01a\x02\x00\x01\x01\x01" + "\x00":            api.ErrForm,
		"\x01\x01a\x02\x00\x01\x01\x01\x01\x01":             api.ErrForm,
		"\x01\x01a\x01\x00\x01\x01\x01":                     api.ErrForm,
		"\x01\x01a\x02\x00\x80\x01\x80\x01\x80\x01":         api.OK,
		"\x01\x01a\x02\x00\x80\x01\x80\x00\x80\x01":         api.ErrForm,
		"\x01\x01a\x01\x00\xff\xff\xff\xff\xff\x1f":         api.OK,
		"\x01\x01a\x01\x00\x80\x80\x80\x80\x80\x20":         api.OK, // all numbers
		"\x01\x01a\x01\x00\x81\x80\x80\x80\x80\x20":         api.ErrForm,
		"\x01\x01a\x01\x01\x80\x80\x80\x80\x80\x20":         api.ErrForm,
		"\x01\x01a\x01\x01\xff\xff\xff\xff\xff\x1f":         api.OK,
		"\x01\x01a\x01\xff\xff\xff\xff\xff\x1f\x01":         api.OK, // the last number
		"\x01\x01a\x01\xff\xff\xff\xff\xff\x1f\x02":         api.ErrForm,
		"\x01\x01a\x01\x80\x80\x80\x80\x80\x20\x01":         api.ErrForm,
		"\x01\x01a\x01\xff\xff\xff\xff\xff\x7f\x01":         api.ErrForm,
		"\x01\x01a\x01\x00\xff\xff\xff\xff\xff\x7f":         api.ErrForm,
		"\x01\x01a\x02\x00\x01\xfe\xff\xff\xff\xff\x1f\x01": api.OK,
		"\x01\x01a\x02\x00\x01\xff\xff\xff\xff\xff\x1f\x01": api.ErrForm,
		"\x01\x01a\x02\x00\x80\x80\x80\x80\x80\x20\x01\x01": api.ErrForm,
		"\x01\x01a\x02\x00\xfe\xff\xff\xff\xff\x1f\x01\x01": api.OK,
		"\x01\x01a\x02\x00\xff\xff\xff\xff\xff\x1f\x01\x01": api.ErrForm,
	})
}

// P7.1: of two things that are wrong the first one from the front is told.
func TestDecodeTellsWhatIsFirst(t *testing.T) {
	const great = "\xff\xff\xff\xff\xff\x7f"
	tells(t, map[string]api.Errno{
		// a wrong number, and the bytes end
		"\x80\x00":                           api.ErrForm,
		"\x80\x80\x80\x80\x80\x80":           api.ErrForm,
		"\x01\x01a\x80\x80\x80\x80\x80\x80":  api.ErrForm,
		"\x01\x01a\x01\x80\x00":              api.ErrForm,
		"\x01\x01a\x01" + great[:5] + "\xff": api.ErrForm,
		// the bytes end ahead of what makes a number wrong
		"\x80\x80\x80\x80\x80":          api.ErrTorn,
		"\x01\x01a\x01\x80":             api.ErrTorn,
		"\x01\x01a\x01\x00\xff\xff\xff": api.ErrTorn,
		// a name is asked for when it is there
		"\x01\x05A":                           api.ErrTorn,
		"\x01\x19" + longest:                  api.ErrTorn,
		"\x01\x19" + longest + "z":            api.ErrForm,
		"\x01\xff" + strings.Repeat("A", 254): api.ErrTorn,
		"\x01\xff" + strings.Repeat("A", 255): api.ErrForm,
		"\x01\x00":                            api.ErrForm,
		"\x01\x01A":                           api.ErrForm,
		"\x02\x01b\x01\x00\x01\x01a":          api.ErrForm,
		"\x02\x01b\x01\x00\x01\x02a":          api.ErrTorn,
		"\x02\x01b\x01\x00\x01\x01b":          api.ErrForm,
		// a name, and a number behind it
		"\x01\x01A\x80\x00": api.ErrForm,
		"\x01\x01A\x80":     api.ErrForm,
		// no ranges, a gap of 0, no numbers: told behind their own number
		"\x02\x01a\x00":                 api.ErrForm,
		"\x01\x01a\x02\x00\x01\x00":     api.ErrForm,
		"\x01\x01a\x02\x00\x01\x00\x80": api.ErrForm,
		"\x01\x01a\x02\x00\x00":         api.ErrForm,
		"\x01\x01a\x02\x05\x00":         api.ErrForm,
		"\x02\x01a\x01\x00\x00":         api.ErrForm,
		// an end that is too far: told behind both of its numbers
		"\x01\x01a\x01" + great:                          api.ErrTorn,
		"\x01\x01a\x01" + great + "\x80":                 api.ErrTorn,
		"\x01\x01a\x01" + great + "\x80\x00":             api.ErrForm,
		"\x01\x01a\x01" + great + "\x00":                 api.ErrForm,
		"\x01\x01a\x01" + great + "\x01":                 api.ErrForm,
		"\x01\x01a\x01" + great + great:                  api.ErrForm,
		"\x02\x01a\x01" + great + "\x01":                 api.ErrForm,
		"\x01\x01a\x02\x00" + great:                      api.ErrForm,
		"\x01\x01a\x02\x00\x01" + great:                  api.ErrTorn,
		"\x01\x01a\x02\x00\x01" + great + "\x01":         api.ErrForm,
		"\x01\x01a\x03\x00\x01" + great + "\x01":         api.ErrForm,
		"\x01\x01a\x02\x00\x80\x80\x80\x80\x80\x20":      api.ErrTorn, // all numbers, and one range more
		"\x01\x01a\x02\x00\x80\x80\x80\x80\x80\x20\x00":  api.ErrForm,
		"\x01\x01a\x02\x00\x80\x80\x80\x80\x80\x20\x01":  api.ErrTorn,
		"\x02\x01a\x01\x00\x81\x80\x80\x80\x80\x20\x01A": api.ErrForm,
		// what is left is told at the end
		"\x02\x01a\x01\x00\x01\x01b\x01\x00":     api.ErrTorn,
		"\x01\x01a\x01\x00\x01\x01b\x01\x00":     api.ErrForm,
		"\x02\x01a\x01\x00\x01\x01b\x01\x00\x80": api.ErrTorn,
	})
}

// nearby is sets of which the bytes are changed a little.
var nearby = [][]string{
	nil,
	{"a 1-3 4-5"},
	{"a 1-1099511627777", "b 1099511627776-1099511627777"},
	{"- 129-257 300-301", "a 1-2", "a0 5-70000 1099511627775-1099511627777", longest + " 2-3"},
}

// P7.1, P7.3: each beginning of a set's bytes is torn.
func TestDecodeTorn(t *testing.T) {
	for _, lines := range nearby {
		b := bytesOf(t, lines...)
		for i := range b {
			if s, err := dedupe.Decode(b[:i]); s != nil || err != api.ErrTorn {
				t.Errorf("%x: %d", b[:i], err)
			}
		}
		if err := decodes(t, b); err != api.OK {
			t.Errorf("%x: %d", b, err)
		}
	}
}

// P7.1, P7.3: one byte more, each byte another one or left out, one more anywhere, and a piece twice.
func TestDecodeOfAnyChange(t *testing.T) {
	for _, lines := range nearby {
		b := bytesOf(t, lines...)
		met := map[api.Errno]int{}
		for i := range len(b) + 1 {
			met[decodes(t, b[i:])]++
			met[decodes(t, slices.Concat(b, b[i:]))]++
			met[decodes(t, slices.Concat(b[:i], b))]++
			for c := range 256 {
				more := decodes(t, slices.Concat(b[:i], []byte{byte(c)}, b[i:]))
				met[more]++
				if i == len(b) && more != api.ErrForm {
					t.Errorf("%x with %d behind: %d", b, c, more)
				}
				if i < len(b) {
					met[decodes(t, slices.Concat(b[:i], []byte{byte(c)}, b[i+1:]))]++
				}
			}
			if i < len(b) {
				met[decodes(t, slices.Concat(b[:i], b[i+1:]))]++
			}
		}
		if len(b) > 1 && (met[api.OK] < 100 || met[api.ErrForm] < 100 || met[api.ErrTorn] < 100) {
			t.Errorf("near %x: %v", b, met)
		}
	}
}

// P7.1, P7.3: any numbers and any names where they stand, and any bytes.
func TestDecodeOfAnyBytes(t *testing.T) {
	r := rand.New(rand.NewPCG(3, 7))
	number := func() []byte {
		n := uint64(r.IntN(3))
		switch r.IntN(40) {
		case 0:
			n = uint64(r.Int64N(1 << 43))
		case 1:
			n = uint64(most - 2 + r.IntN(5))
		case 2:
			return []byte{128, 0}
		}
		return binary.AppendUvarint(nil, n)
	}
	met := map[api.Errno]int{}
	for range 200000 {
		b := number()
		for range r.IntN(4) {
			name := []string{"", "a", "a", "b", "b", "c", "c", "aa", "A", longest}[r.IntN(10)]
			b = append(append(b, byte(len(name))), name...)
			b = append(b, number()...)
			for range 2 * r.IntN(4) {
				b = append(b, number()...)
			}
		}
		met[decodes(t, b)]++
		few := make([]byte, r.IntN(12))
		for i := range few {
			few[i] = []byte{0, 1, 1, 1, 2, 3, 'a', 'b', 128, 255, byte(r.IntN(256))}[r.IntN(11)]
		}
		met[decodes(t, few)]++
	}
	if met[api.OK] < 1000 || met[api.ErrForm] < 1000 || met[api.ErrTorn] < 1000 {
		t.Error(met)
	}
}

// P7.1: a great many sources or ranges that aren't there are neither made room for nor waited for.
func TestDecodeOfLongBytes(t *testing.T) {
	const great = "\xff\xff\xff\xff\xff\x7f"
	for s, want := range map[string]api.Errno{
		great + strings.Repeat("\x00", 1<<20):                                  api.ErrForm,
		"\x01\x01a" + great + strings.Repeat("\x01", 1<<20):                    api.ErrTorn,
		"\x01\x01a" + great + strings.Repeat("\x01", 1<<20) + "\x00":           api.ErrForm,
		"\x01\x01a\x80\x80\x20" + strings.Repeat("\x01", 1<<20):                api.OK,
		"\x01\x01a\x80\x80\x20" + strings.Repeat("\x01", 1<<20) + "\x01":       api.ErrForm,
		"\x01\x01a\x80\x80\x20" + strings.Repeat("\x01", 1<<20-1):              api.ErrTorn,
		"\x01\x01a\x80\x80\x20" + strings.Repeat("\x01", 1<<20-2) + "\x01\x00": api.ErrForm,
		strings.Repeat("\x00", 1<<20):                                          api.ErrForm,
		strings.Repeat("\xff", 1<<20):                                          api.ErrForm,
	} {
		if x, err := dedupe.Decode([]byte(s)); err != want || (x != nil) != (want == api.OK) {
			t.Errorf("%x..: %d, not %d", s[:12], err, want)
		}
	}
}

// P7.3: unlike sets have unlike bytes.
func TestBytesOfUnlikeSets(t *testing.T) {
	seen := map[string]bool{}
	for i := range 1 << 10 {
		s := dedupe.New()
		for n := range 5 {
			if i>>n&1 == 1 {
				s.Put("a", n+1)
			}
			if i>>(n+5)&1 == 1 {
				s.Put("b", n+1)
			}
		}
		seen[string(s.Encode())] = true
	}
	if len(seen) != 1<<10 {
		t.Error(len(seen))
	}
}
