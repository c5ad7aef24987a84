package clock_test

import (
	"fmt"
	"math"
	"slices"
	"testing"

	"cicerone/clock"
)

// P6.2: all that were heard, rising byte by byte, each once.
func TestSources(t *testing.T) {
	c := clock.New(most, 0)
	for _, name := range []string{"b", "a", "-", "ab", "9", "b", "a-", "10", "z", "a0", "2", "a"} {
		c.Hear(name, 5, 0)
		c.Hear("B", 5, 0)
		c.Hear("late", -1, 0)
	}
	if got, want := c.Sources(), []string{"-", "10", "2", "9", "a", "a-", "a0", "ab", "b", "z"}; !slices.Equal(got, want) {
		t.Errorf("%q, not %q", got, want)
	}
	c = clock.New(0, 0)
	var want []string
	for i := range 3000 {
		name := fmt.Sprint("s", (i*7)%3000)
		want = append(want, name)
		if !c.Hear(name, i, 0) {
			t.Fatal(name)
		}
	}
	slices.Sort(want)
	if !slices.Equal(c.Sources(), want) || c.Mark() != -1 {
		t.Error(c.Sources(), c.Mark())
	}
}

// P6.2: a source that is no longer active was heard all the same.
func TestIdleSourcesStay(t *testing.T) {
	c := clock.New(0, 1)
	hears(t, c, "a", 5, 0, true, "clock 0 1 0 4", "a 5 0")
	ticks(t, c, most, 4, spaced("clock", 0, 1, most, 4), "a 5 0")
	if c.Active("a") || c.Heard("a") != 5 || !slices.Equal(c.Sources(), []string{"a"}) {
		t.Error(c.Active("a"), c.Heard("a"), c.Sources())
	}
}

// P6.2: with an idle time of 0 whoever was heard is active for ever.
func TestNoIdleTime(t *testing.T) {
	for _, idle := range []int{0, -1, math.MinInt} {
		c := clock.New(0, idle)
		c.Hear("a", 5, 0)
		c.Hear("b", 9, most)
		if !c.Active("a") || !c.Active("b") || c.Active("c") || c.Mark() != 4 {
			t.Error(idle, c.Mark())
		}
	}
}

// P6.2: a source is active just up to the idle time.
func TestJustActive(t *testing.T) {
	for _, idle := range []int{1, 2, 10, most - 1, most, most + 1} {
		for _, from := range []int{0, 1, 7, most - 11, most - 10, most - 1, most} {
			last := inside(from) + inside(idle)
			for _, now := range []int{from, last - 1, last, last + 1, most} {
				c := clock.New(0, idle)
				c.Hear("a", 5, from)
				c.Tick(now)
				if want := min(max(now, from), most) <= last; c.Active("a") != want {
					t.Errorf("idle %d, heard at %d, now %d: %t", idle, from, now, c.Active("a"))
				}
			}
		}
	}
}

// P6.2: who is heard again is active again, and holds the mark, but doesn't make it fall.
func TestActiveAgain(t *testing.T) {
	c := clock.New(2, 5)
	hears(t, c, "a", 5, 0, true, "clock 2 5 0 2", "a 5 0")
	hears(t, c, "b", 20, 6, true, "clock 2 5 6 17", "a 5 0", "b 20 6")
	hears(t, c, "a", 18, 7, true, "clock 2 5 7 17", "a 18 7", "b 20 6")
	hears(t, c, "b", 30, 8, true, "clock 2 5 8 17", "a 18 7", "b 30 8")
	ticks(t, c, 12, 17, "clock 2 5 12 17", "a 18 7", "b 30 8")
	ticks(t, c, 13, 27, "clock 2 5 13 27", "a 18 7", "b 30 8")
}

// P6.2: a mark without any active source stays, till one is heard again: by its greatest At.
func TestNoneActive(t *testing.T) {
	c := clock.New(10, 5)
	hears(t, c, "a", 40, 0, true, "clock 10 5 0 29", "a 40 0")
	hears(t, c, "b", 35, 0, true, "clock 10 5 0 29", "a 40 0", "b 35 0")
	ticks(t, c, 6, 29, "clock 10 5 6 29", "a 40 0", "b 35 0")
	hears(t, c, "a", 29, 7, false, "clock 10 5 7 29", "a 40 0", "b 35 0")
	if c.Active("a") || c.Active("b") {
		t.Error("active")
	}
	hears(t, c, "a", 30, 8, true, "clock 10 5 8 29", "a 40 8", "b 35 0")
	hears(t, c, "a", 60, 9, true, "clock 10 5 9 49", "a 60 9", "b 35 0")
	// a new one behind that, of which none is active at its tick either
	ticks(t, c, 100, 49, "clock 10 5 100 49", "a 60 9", "b 35 0")
	hears(t, c, "c", 50, 100, true, "clock 10 5 100 49", "a 60 9", "b 35 0", "c 50 100")
	hears(t, c, "c", 80, 100, true, "clock 10 5 100 69", "a 60 9", "b 35 0", "c 80 100")
}

// P6.2: a source that is heard again tells by its greatest At: so the mark can rise above what it is heard with.
func TestActiveAgainBelowItsAt(t *testing.T) {
	c := clock.New(10, 5)
	hears(t, c, "a", 40, 0, true, "clock 10 5 0 29", "a 40 0")
	hears(t, c, "b", 70, 0, true, "clock 10 5 0 29", "a 40 0", "b 70 0")
	ticks(t, c, 6, 29, "clock 10 5 6 29", "a 40 0", "b 70 0")
	hears(t, c, "b", 45, 6, true, "clock 10 5 6 59", "a 40 0", "b 70 6")
	hears(t, c, "b", 45, 6, false, "clock 10 5 6 59", "a 40 0", "b 70 6")
	hears(t, c, "a", 60, 6, true, "clock 10 5 6 59", "a 60 6", "b 70 6")
}

// P6.2: of anything that isn't heard.
func TestNotHeard(t *testing.T) {
	c := clock.New(0, 0)
	hears(t, c, "ab", 5, 0, true, "clock 0 0 0 4", "ab 5 0")
	for _, name := range []string{"", "a", "abc", "AB", "ab ", " ab", "ab\n", "ab\x00", "\xff", "日本"} {
		if c.Heard(name) != -1 || c.Active(name) {
			t.Errorf("%q: %d, %t", name, c.Heard(name), c.Active(name))
		}
	}
}

// P6.2: asking changes nothing.
func TestAskingChangesNothing(t *testing.T) {
	c := clock.New(1, 4)
	c.Hear("b-1", 7, 2)
	c.Hear("a", 9, 5)
	for range 3 {
		holds(t, c, "clock 1 4 5 5", "a 9 5", "b-1 7 2")
	}
}
