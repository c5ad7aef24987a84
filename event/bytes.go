package event

import (
	"cicerone/api"
)

const (
	// group is how many values seven bits have; a byte of a number that is that much more says that another one follows.
	group = 128
	// numberBytes are the most that a number has: 2^40 needs six groups.
	numberBytes = 6
)

// Encode is the bytes of e.
func Encode(e Event) ([]byte, api.Errno) {
	if !May(e) {
		return nil, api.ErrArg
	}
	b := []byte{byte(e.Kind)}
	b = putText(b, e.Source)
	b = putNumber(b, e.Number)
	b = putNumber(b, e.At)
	b = putText(b, e.Person)
	b = putText(b, e.Item)
	b = putNumber(b, e.Value)
	return putText(b, e.Text), api.OK
}

// putText needs a text of an event that may be: the length of any other one might not fit into a byte.
func putText(b []byte, s string) []byte {
	return append(append(b, byte(len(s))), s...)
}

func putNumber(b []byte, n int) []byte {
	for n >= group {
		b = append(b, byte(n%group+group))
		n /= group
	}
	return append(b, byte(n))
}

// Decode is the event with which b begins, and how many bytes it takes.
func Decode(b []byte) (Event, int, api.Errno) {
	r := reader{rest: b}
	var e Event
	e.Kind = Kind(r.one())
	e.Source = r.text()
	e.Number = r.number()
	e.At = r.number()
	e.Person = r.text()
	e.Item = r.text()
	e.Value = r.number()
	e.Text = r.text()
	if r.wrong != api.OK {
		return Event{}, 0, r.wrong
	}
	if !May(e) {
		return Event{}, 0, api.ErrForm
	}
	return e, len(b) - len(r.rest), api.OK
}

// reader reads fields one behind the other. Once something is wrong it reads nothing more, so that what was wrong first is told.
type reader struct {
	rest  []byte
	wrong api.Errno
}

// take is the next n bytes, or none if something is wrong.
func (r *reader) take(n int) []byte {
	if r.wrong == api.OK && len(r.rest) < n {
		r.wrong = api.ErrTorn
	}
	if r.wrong != api.OK {
		return nil
	}
	taken := r.rest[:n]
	r.rest = r.rest[n:]
	return taken
}

func (r *reader) one() byte {
	taken := r.take(1)
	if len(taken) == 0 {
		return 0
	}
	return taken[0]
}

func (r *reader) text() string {
	return string(r.take(int(r.one())))
}

func (r *reader) number() int {
	n := 0
	for i := range numberBytes {
		c := r.one()
		if c == 0 && i > 0 && r.wrong == api.OK {
			r.wrong = api.ErrForm
		}
		if r.wrong != api.OK {
			return 0
		}
		n |= int(c%group) << (7 * i)
		if c < group {
			return n
		}
	}
	r.wrong = api.ErrForm
	return 0
}
