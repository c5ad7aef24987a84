package clock_test

import (
	"math"
	"slices"
	"strconv"
	"strings"
	"testing"

	"cicerone/api"
	"cicerone/clock"
)

// most is the greatest tick, as a number of its own and not as the limit of api.
const most = 1099511627776

// ends are numbers at both ends of what may be, below, between and above.
var ends = []int{math.MinInt, -most - 1, -most, -2, -1, 0, 1, 2, most - 1, most, most + 1, math.MaxInt - 1, math.MaxInt}

// inside is the nearest number that may be.
func inside(n int) int {
	switch {
	case n < 0:
		return 0
	case n > most:
		return most
	}
	return n
}

// text is lines of words and numbers.
func text(lines ...string) string {
	return strings.Join(lines, "\n") + "\n"
}

func spaced(word string, numbers ...int) string {
	for _, n := range numbers {
		word += " " + strconv.Itoa(n)
	}
	return word
}

func number(t *testing.T, word string) int {
	t.Helper()
	n, err := strconv.Atoi(word)
	if err != nil {
		t.Fatal(err)
	}
	return n
}

// holds asks a clock all that can be asked, and holds it against its text.
func holds(t *testing.T, c *clock.Clock, lines ...string) {
	t.Helper()
	if got := string(c.Encode()); got != text(lines...) {
		t.Errorf("the bytes are %q, not %q", got, text(lines...))
	}
	first := strings.Fields(lines[0])
	idle, now, mark := number(t, first[2]), number(t, first[3]), number(t, first[4])
	if c.Mark() != mark || c.Now() != now {
		t.Errorf("the mark is %d, not %d, or now is %d, not %d", c.Mark(), mark, c.Now(), now)
	}
	var names []string
	for _, line := range lines[1:] {
		w := strings.Fields(line)
		names = append(names, w[0])
		at, last := number(t, w[1]), number(t, w[2])
		if c.Heard(w[0]) != at {
			t.Errorf("%s has come to %d, not %d", w[0], c.Heard(w[0]), at)
		}
		if active := idle == 0 || now <= last+idle; c.Active(w[0]) != active {
			t.Errorf("%s is active: %t, not %t", w[0], c.Active(w[0]), active)
		}
	}
	if got := c.Sources(); !slices.Equal(got, names) {
		t.Errorf("%q were heard, not %q", got, names)
	}
	for _, other := range []string{"", "nobody", "A", "clock", strings.Repeat("z", 25)} {
		if !slices.Contains(names, other) && (c.Heard(other) != -1 || c.Active(other)) {
			t.Errorf("%q was heard up to %d, and is active: %t", other, c.Heard(other), c.Active(other))
		}
	}
}

// hears tells a clock of a source, and holds what it answers against what is to be.
func hears(t *testing.T, c *clock.Clock, source string, at, now int, want bool, lines ...string) {
	t.Helper()
	if got := c.Hear(source, at, now); got != want {
		t.Errorf("Hear(%q, %d, %d): %t", source, at, now, got)
	}
	holds(t, c, lines...)
}

// ticks holds what a Tick answers, and makes of a clock, against what is to be.
func ticks(t *testing.T, c *clock.Clock, now, want int, lines ...string) {
	t.Helper()
	if got := c.Tick(now); got != want {
		t.Errorf("Tick(%d): %d, not %d", now, got, want)
	}
	holds(t, c, lines...)
}

// decoded is the clock of a text.
func decoded(t *testing.T, lines ...string) *clock.Clock {
	t.Helper()
	c, err := clock.Decode([]byte(text(lines...)))
	if err != api.OK {
		t.Fatalf("%q: %d", lines, err)
	}
	return c
}

// P6.1: a new clock has heard nothing.
func TestNew(t *testing.T) {
	holds(t, clock.New(3, 10), "clock 3 10 0 -1")
	holds(t, clock.New(0, 0), "clock 0 0 0 -1")
}

// P6.1: a slack and an idle time below 0 count as 0, those above 2^40 as 2^40.
func TestNewAtTheEnds(t *testing.T) {
	for _, slack := range ends {
		for _, idle := range ends {
			holds(t, clock.New(slack, idle), spaced("clock", inside(slack), inside(idle), 0, -1))
		}
	}
}

// P6.1: clocks go on by themselves.
func TestNewIsNew(t *testing.T) {
	a, b := clock.New(0, 0), clock.New(0, 0)
	hears(t, a, "a", 5, 7, true, "clock 0 0 7 4", "a 5 7")
	holds(t, b, "clock 0 0 0 -1")
}

// P6.1: what is now becomes the now that it is told, if that is greater; the mark is told.
func TestTick(t *testing.T) {
	c := clock.New(3, 0)
	ticks(t, c, 5, -1, "clock 3 0 5 -1")
	ticks(t, c, 4, -1, "clock 3 0 5 -1")
	ticks(t, c, 5, -1, "clock 3 0 5 -1")
	ticks(t, c, 6, -1, "clock 3 0 6 -1")
	hears(t, c, "a", 9, 0, true, "clock 3 0 6 5", "a 9 6")
	ticks(t, c, 0, 5, "clock 3 0 6 5", "a 9 6")
	ticks(t, c, 7, 5, "clock 3 0 7 5", "a 9 6")
}

// P6.1: a now below 0 counts as 0, one above 2^40 as 2^40, of a Tick and of a Hear.
func TestNowAtTheEnds(t *testing.T) {
	for _, now := range ends {
		for _, then := range ends {
			c := clock.New(0, 0)
			later := max(inside(now), inside(then))
			ticks(t, c, now, -1, spaced("clock", 0, 0, inside(now), -1))
			ticks(t, c, then, -1, spaced("clock", 0, 0, later, -1))
			c = clock.New(0, 0)
			hears(t, c, "a", 8, now, true, spaced("clock", 0, 0, inside(now), 7), spaced("a", 8, inside(now)))
			hears(t, c, "b", 9, then, true, spaced("clock", 0, 0, later, 7), spaced("a", 8, inside(now)), spaced("b", 9, later))
		}
	}
}

// P6.1: a Tick makes the mark rise, where a source that is no longer active held it.
func TestTickBeyondASource(t *testing.T) {
	c := clock.New(1, 4)
	hears(t, c, "a", 5, 10, true, "clock 1 4 10 3", "a 5 10")
	hears(t, c, "b", 9, 12, true, "clock 1 4 12 3", "a 5 10", "b 9 12")
	hears(t, c, "c", 7, 12, true, "clock 1 4 12 3", "a 5 10", "b 9 12", "c 7 12")
	ticks(t, c, 14, 3, "clock 1 4 14 3", "a 5 10", "b 9 12", "c 7 12")
	ticks(t, c, 15, 5, "clock 1 4 15 5", "a 5 10", "b 9 12", "c 7 12")
	ticks(t, c, 16, 5, "clock 1 4 16 5", "a 5 10", "b 9 12", "c 7 12")
	// without an active one it stays
	ticks(t, c, 17, 5, "clock 1 4 17 5", "a 5 10", "b 9 12", "c 7 12")
	ticks(t, c, math.MaxInt, 5, spaced("clock", 1, 4, most, 5), "a 5 10", "b 9 12", "c 7 12")
}
