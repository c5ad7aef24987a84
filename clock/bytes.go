package clock

import (
	"strconv"
	"strings"

	"cicerone/api"
)

const (
	// head is the word with which the bytes of a clock begin.
	head = "clock"
	// none stands for what is no number: no clock that may be has it.
	none = -2
)

// Encode is the bytes of the clock.
func (c *Clock) Encode() []byte {
	b := putLine(nil, head, c.slack, c.idle, c.now, c.mark)
	for _, name := range c.Sources() {
		r := c.sources[name]
		b = putLine(b, name, r.at, r.last)
	}
	return b
}

func putLine(b []byte, word string, numbers ...int) []byte {
	b = append(b, word...)
	for _, n := range numbers {
		b = append(b, ' ')
		b = strconv.AppendInt(b, int64(n), 10)
	}
	return append(b, '\n')
}

// Decode is the clock that may be whose bytes b is.
func Decode(b []byte) (*Clock, api.Errno) {
	text := string(b)
	c := read(text)
	// A clock has just one text. So this finds all that is wrong with another one: words and numbers that aren't there, noughts ahead, signs, sources that don't rise.
	if !c.may() || string(c.Encode()) != text {
		return nil, api.ErrForm
	}
	return c, api.OK
}

// read is the clock whose text it is; of a text that is no clock's it is any one.
func read(text string) *Clock {
	rest := text
	word := func(end string) string {
		w, behind, _ := strings.Cut(rest, end)
		rest = behind
		return w
	}
	number := func(end string) int {
		n, err := strconv.Atoi(word(end))
		if err != nil {
			return none
		}
		return n
	}
	c := New(0, 0)
	word(" ") // whatever it is: what the clock writes begins with head
	c.slack = number(" ")
	c.idle = number(" ")
	c.now = number(" ")
	c.mark = number("\n")
	for rest != "" {
		name := word(" ")
		at := number(" ")
		last := number("\n")
		c.sources[name] = reach{at: at, last: last}
	}
	return c
}

// may tells whether the clock may be.
func (c *Clock) may() bool {
	if !isTick(c.slack) || !isTick(c.idle) || !isTick(c.now) || c.mark != before && !isTick(c.mark) {
		return false
	}
	for name, r := range c.sources {
		if !isName(name) || !isTick(r.at) || !isTick(r.last) || r.last > c.now {
			return false
		}
	}
	return c.mark >= c.told()
}
