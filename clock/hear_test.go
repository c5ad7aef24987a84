package clock_test

import (
	"math"
	"slices"
	"strings"
	"testing"

	"cicerone/clock"
)

// P6.1: the chapter's example.
func TestExample(t *testing.T) {
	c := clock.New(3, 0)
	hears(t, c, "a", 10, 0, true, "clock 3 0 0 6", "a 10 0")
	hears(t, c, "b", 8, 0, true, "clock 3 0 0 6", "a 10 0", "b 8 0")
	hears(t, c, "b", 5, 0, false, "clock 3 0 0 6", "a 10 0", "b 8 0")
	hears(t, c, "a", 20, 0, true, "clock 3 0 0 6", "a 20 0", "b 8 0")
	hears(t, c, "b", 20, 0, true, "clock 3 0 0 16", "a 20 0", "b 20 0")
}

// P6.1: a name is 1 to 24 bytes; of what is none the clock hears nothing, but it ticks.
func TestNames(t *testing.T) {
	for _, name := range []string{"a", "z", "0", "9", "-", "--", "clock", "a-0", "-1", strings.Repeat("z", 23), strings.Repeat("9", 24)} {
		hears(t, clock.New(0, 0), name, 5, 1, true, "clock 0 0 1 4", name+" 5 1")
	}
	for _, name := range []string{"", strings.Repeat("a", 25), strings.Repeat("-", 26), strings.Repeat("a", 70000), " ", ".", "a b", "a\n", "\na", "a ", " a", "é", "a\xff", "日"} {
		c := clock.New(0, 0)
		hears(t, c, name, 5, 1, false, "clock 0 0 1 -1")
		if c.Heard(name) != -1 || c.Active(name) {
			t.Errorf("%q was heard", name)
		}
	}
}

// P6.1: each byte alone, and at each place of a name.
func TestBytesOfNames(t *testing.T) {
	for b := range 256 {
		one := string([]byte{byte(b)})
		want := strings.Contains("abcdefghijklmnopqrstuvwxyz0123456789-", one)
		for _, name := range []string{one, one + "a", "a" + one, "a" + one + "a", strings.Repeat("a", 23) + one, one + strings.Repeat("a", 23)} {
			c := clock.New(0, 0)
			if c.Hear(name, 0, 0) != want || len(c.Sources()) == 1 != want || c.Active(name) != want || c.Heard(name) == 0 != want {
				t.Errorf("%q", name)
			}
		}
		if c := clock.New(0, 0); c.Hear(strings.Repeat("a", 24)+one, 0, 0) {
			t.Errorf("25 bytes with %q", one)
		}
	}
}

// P6.1: what isn't from 0 to 2^40 is no tick.
func TestTicksAtTheEnds(t *testing.T) {
	for _, at := range ends {
		for _, slack := range []int{0, 1, most} {
			c := clock.New(slack, 0)
			if at < 0 || at > most {
				hears(t, c, "a", at, 3, false, spaced("clock", slack, 0, 3, -1))
				continue
			}
			mark := max(-1, at-slack-1)
			hears(t, c, "a", at, 3, true, spaced("clock", slack, 0, 3, mark), spaced("a", at, 3))
		}
	}
}

// P6.1: an At that is at most the mark is too late, one just above it isn't; nor by a source that is new.
func TestAtTheMark(t *testing.T) {
	for _, source := range []string{"a", "b", "c"} {
		for at := range 20 {
			c := clock.New(3, 0)
			hears(t, c, "a", 10, 1, true, "clock 3 0 1 6", "a 10 1")
			hears(t, c, "b", 12, 1, true, "clock 3 0 1 6", "a 10 1", "b 12 1")
			if got := c.Hear(source, at, 2); got != (at > 6) {
				t.Errorf("Hear(%s, %d): %t", source, at, got)
			}
			if at <= 6 {
				holds(t, c, "clock 3 0 2 6", "a 10 1", "b 12 1")
			}
		}
	}
}

// P6.1: with a slack of 0 the tick that a source has come to is heard again; a lower one isn't.
func TestNoSlack(t *testing.T) {
	c := clock.New(0, 0)
	hears(t, c, "a", 0, 0, true, "clock 0 0 0 -1", "a 0 0")
	hears(t, c, "a", 0, 1, true, "clock 0 0 1 -1", "a 0 1")
	hears(t, c, "a", 1, 2, true, "clock 0 0 2 0", "a 1 2")
	hears(t, c, "a", 0, 3, false, "clock 0 0 3 0", "a 1 2")
	hears(t, c, "a", 1, 4, true, "clock 0 0 4 0", "a 1 4")
	hears(t, c, "a", most, 5, true, spaced("clock", 0, 0, 5, most-1), spaced("a", most, 5))
	hears(t, c, "b", most-1, 6, false, spaced("clock", 0, 0, 6, most-1), spaced("a", most, 5))
	hears(t, c, "b", most, 7, true, spaced("clock", 0, 0, 7, most-1), spaced("a", most, 5), spaced("b", most, 7))
}

// P6.1: with the greatest slack nothing is ever too late.
func TestGreatestSlack(t *testing.T) {
	c := clock.New(math.MaxInt, 0)
	hears(t, c, "a", most, 0, true, spaced("clock", most, 0, 0, -1), spaced("a", most, 0))
	hears(t, c, "a", 0, 1, true, spaced("clock", most, 0, 1, -1), spaced("a", most, 1))
	hears(t, c, "b", 0, 1, true, spaced("clock", most, 0, 1, -1), spaced("a", most, 1), "b 0 1")
}

// P6.1: a source that is heard again with a smaller At was heard last now, but its At stays.
func TestSmallerAt(t *testing.T) {
	c := clock.New(5, 10)
	hears(t, c, "a", 20, 3, true, "clock 5 10 3 14", "a 20 3")
	hears(t, c, "a", 15, 8, true, "clock 5 10 8 14", "a 20 8")
	hears(t, c, "a", 20, 9, true, "clock 5 10 9 14", "a 20 9")
	hears(t, c, "a", 21, 9, true, "clock 5 10 9 15", "a 21 9")
	hears(t, c, "a", 15, 9, false, "clock 5 10 9 15", "a 21 9")
}

// P6.1: a source is heard last at what is now, not at a smaller now that is told.
func TestSmallerNow(t *testing.T) {
	c := clock.New(5, 10)
	hears(t, c, "a", 20, 9, true, "clock 5 10 9 14", "a 20 9")
	hears(t, c, "b", 21, 4, true, "clock 5 10 9 14", "a 20 9", "b 21 9")
	hears(t, c, "a", 22, math.MinInt, true, "clock 5 10 9 15", "a 22 9", "b 21 9")
}

// P6.1: the mark doesn't fall when a source that is far behind is heard first; but then it is held by that one.
func TestFarBehind(t *testing.T) {
	c := clock.New(10, 0)
	hears(t, c, "a", 50, 0, true, "clock 10 0 0 39", "a 50 0")
	hears(t, c, "b", 40, 0, true, "clock 10 0 0 39", "a 50 0", "b 40 0")
	hears(t, c, "a", 90, 0, true, "clock 10 0 0 39", "a 90 0", "b 40 0")
	hears(t, c, "b", 50, 0, true, "clock 10 0 0 39", "a 90 0", "b 50 0")
	hears(t, c, "b", 51, 0, true, "clock 10 0 0 40", "a 90 0", "b 51 0")
	hears(t, c, "b", 91, 0, true, "clock 10 0 0 79", "a 90 0", "b 91 0")
}

// P6.1: two sources in either order: who is ahead first makes the mark rise.
func TestEitherOrder(t *testing.T) {
	c := clock.New(3, 0)
	hears(t, c, "a", 10, 0, true, "clock 3 0 0 6", "a 10 0")
	hears(t, c, "b", 7, 0, true, "clock 3 0 0 6", "a 10 0", "b 7 0")
	c = clock.New(3, 0)
	hears(t, c, "b", 7, 0, true, "clock 3 0 0 3", "b 7 0")
	hears(t, c, "a", 10, 0, true, "clock 3 0 0 3", "a 10 0", "b 7 0")
	// where none is late in either order, both come to the same
	for _, order := range [][]string{{"a", "b"}, {"b", "a"}} {
		c = clock.New(3, 0)
		for _, name := range order {
			c.Hear(name, 2, 4)
		}
		hears(t, c, "a", 9, 4, true, "clock 3 0 4 -1", "a 9 4", "b 2 4")
	}
}

// P6.1: of three sources it is the least one that tells, whichever it is.
func TestTheLeastTells(t *testing.T) {
	names := []string{"a", "b", "c"}
	for i, low := range names {
		c := clock.New(2, 0)
		for k, name := range names {
			c.Hear(name, k, 0)
		}
		for k, name := range names {
			if name != low {
				c.Hear(name, 30+k, 0)
			}
		}
		if c.Mark() != max(-1, i-3) {
			t.Errorf("%s holds the mark at %d", low, c.Mark())
		}
		c.Hear(low, 20, 0)
		if c.Mark() != 17 {
			t.Errorf("%s holds the mark at %d", low, c.Mark())
		}
		c.Hear(low, 40, 0)
		if want := slices.Min([]int{30 + (i+1)%3, 30 + (i+2)%3}) - 3; c.Mark() != want {
			t.Errorf("%s lets the mark to %d, not %d", low, c.Mark(), want)
		}
	}
}

// P6.1: a Hear that is refused ticks all the same: now rises, and the mark does, where a source is no longer active.
func TestRefusedTicks(t *testing.T) {
	for _, x := range []struct {
		name string
		at   int
	}{{"", 50}, {"A", 50}, {strings.Repeat("a", 25), 50}, {"b", -1}, {"b", math.MinInt}, {"b", most + 1}, {"b", math.MaxInt}, {"b", 3}, {"c", 1}, {"", -1}} {
		c := clock.New(0, 5)
		hears(t, c, "a", 4, 0, true, "clock 0 5 0 3", "a 4 0")
		hears(t, c, "b", 9, 3, true, "clock 0 5 3 3", "a 4 0", "b 9 3")
		hears(t, c, x.name, x.at, 5, false, "clock 0 5 5 3", "a 4 0", "b 9 3")
		hears(t, c, x.name, x.at, 6, false, "clock 0 5 6 8", "a 4 0", "b 9 3")
		hears(t, c, x.name, x.at, 2, false, "clock 0 5 6 8", "a 4 0", "b 9 3")
		hears(t, c, x.name, x.at, math.MaxInt, false, spaced("clock", 0, 5, most, 8), "a 4 0", "b 9 3")
	}
}

// P6.1: it ticks first: what is late only by that tick is late.
func TestTicksFirst(t *testing.T) {
	c := clock.New(0, 5)
	hears(t, c, "a", 4, 0, true, "clock 0 5 0 3", "a 4 0")
	hears(t, c, "b", 9, 3, true, "clock 0 5 3 3", "a 4 0", "b 9 3")
	hears(t, c, "c", 8, 6, false, "clock 0 5 6 8", "a 4 0", "b 9 3")
	// a source that holds the mark can be late by its own Hear
	hears(t, c, "a", 8, 6, false, "clock 0 5 6 8", "a 4 0", "b 9 3")
	hears(t, c, "a", 9, 6, true, "clock 0 5 6 8", "a 9 6", "b 9 3")
}
