package dedupe

import (
	"cicerone/api"
	"cicerone/event"
)

const (
	// group is how many values seven bits have; a byte of a number that is that much more says that another one follows.
	group = 128
	// numberBytes are the most that a number has: 2^40 needs six groups.
	numberBytes = 6
)

// Encode is the bytes of the set.
func (s *Set) Encode() []byte {
	sources := s.Sources()
	b := putNumber(nil, len(sources))
	for _, source := range sources {
		b = append(b, byte(len(source))) // a name is short enough
		b = append(b, source...)
		b = putRow(b, s.rows[source])
	}
	return b
}

func putRow(b []byte, row []Range) []byte {
	b = putNumber(b, len(row))
	end := 1
	for _, r := range row {
		b = putNumber(b, r.From-end)
		b = putNumber(b, r.To-r.From)
		end = r.To
	}
	return b
}

func putNumber(b []byte, n int) []byte {
	for n >= group {
		b = append(b, byte(n%group+group))
		n /= group
	}
	return append(b, byte(n))
}

// Decode is the set whose bytes b is.
func Decode(b []byte) (*Set, api.Errno) {
	r := reader{rest: b}
	s := New()
	ahead := ""
	for left := r.number(); left > 0 && r.wrong == api.OK; left-- {
		source := r.name(ahead)
		s.rows[source] = r.row()
		ahead = source
	}
	r.must(len(r.rest) == 0)
	if r.wrong != api.OK {
		return nil, r.wrong
	}
	return s, api.OK
}

// reader reads one thing behind the other. Once something is wrong it reads nothing more, so that what was wrong first is told.
type reader struct {
	rest  []byte
	wrong api.Errno
}

// must holds what was read against what it has to be.
func (r *reader) must(right bool) {
	if r.wrong == api.OK && !right {
		r.wrong = api.ErrForm
	}
}

// take is the next n bytes, or none if something is wrong.
func (r *reader) take(n int) []byte {
	if r.wrong == api.OK && len(r.rest) < n {
		r.wrong = api.ErrTorn
	}
	if r.wrong != api.OK {
		return nil
	}
	taken := r.rest[:n]
	r.rest = r.rest[n:]
	return taken
}

func (r *reader) one() byte {
	taken := r.take(1)
	if len(taken) == 0 {
		return 0
	}
	return taken[0]
}

func (r *reader) number() int {
	n := 0
	for i := range numberBytes {
		c := r.one()
		r.must(c > 0 || i == 0)
		if r.wrong != api.OK {
			return 0
		}
		n |= int(c%group) << (7 * i)
		if c < group {
			return n
		}
	}
	r.must(false)
	return 0
}

// name is asked for only when it is there as a whole, so that bytes that end in it are torn, whatever it begins with.
func (r *reader) name(ahead string) string {
	name := string(r.take(int(r.one())))
	r.must(event.Name(name) && name > ahead)
	return name
}

func (r *reader) row() []Range {
	var row []Range
	left := r.number()
	r.must(left > 0)
	end := 1
	for ; left > 0 && r.wrong == api.OK; left-- {
		gap := r.number()
		r.must(gap > 0 || len(row) == 0)
		numbers := r.number()
		r.must(numbers > 0)
		from := end + gap
		end = from + numbers
		r.must(end <= api.MaxNumber+1)
		row = append(row, Range{From: from, To: end})
	}
	return row
}
