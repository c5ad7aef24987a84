package clock_test

import (
	"math/rand/v2"
	"slices"
	"strings"
	"testing"

	"cicerone/api"
	"cicerone/clock"
)

// told is that a source was heard.
type told struct {
	source  string
	at, now int
}

// book is a clock as the document tells of it: it keeps all that was heard, and recounts from the beginning.
type book struct {
	slack, idle int
	heard       []told
	// marks is what the sources told, after each tick and each source that was heard
	marks []int
	// nows is all that it was told of now
	nows []int
}

func (b *book) now() int {
	return inside(slices.Max(append([]int{0}, b.nows...)))
}

func (b *book) mark() int {
	return slices.Max(append([]int{-1}, b.marks...))
}

// of is the greatest tick that was told of a source, and what was now when it was heard last.
func (b *book) of(source string) (at, last int) {
	at, last = -1, -1
	for _, x := range b.heard {
		if x.source == source {
			at, last = max(at, x.at), x.now
		}
	}
	return at, last
}

func (b *book) active(source string) bool {
	_, last := b.of(source)
	return last >= 0 && (b.idle == 0 || last+b.idle >= b.now())
}

func (b *book) sources() []string {
	var all []string
	for _, x := range b.heard {
		all = append(all, x.source)
	}
	slices.Sort(all)
	return slices.Compact(all)
}

// tell writes down what the sources tell.
func (b *book) tell() {
	var all []int
	for _, name := range b.sources() {
		if at, _ := b.of(name); b.active(name) {
			all = append(all, at-b.slack-1)
		}
	}
	if len(all) > 0 {
		b.marks = append(b.marks, slices.Min(all))
	}
}

func (b *book) tick(now int) int {
	b.nows = append(b.nows, now)
	b.tell()
	return b.mark()
}

func (b *book) hear(source string, at, now int) bool {
	b.tick(now)
	if source == "" || len(source) > 24 || strings.Trim(source, "abcdefghijklmnopqrstuvwxyz-0123456789") != "" || at < 0 || at > most || at <= b.mark() {
		return false
	}
	b.heard = append(b.heard, told{source, at, b.now()})
	b.tell()
	return true
}

func (b *book) lines() []string {
	lines := []string{spaced("clock", b.slack, b.idle, b.now(), b.mark())}
	for _, name := range b.sources() {
		at, last := b.of(name)
		lines = append(lines, spaced(name, at, last))
	}
	return lines
}

// pair is a clock, one that was decoded on the way, and a book, that are told the same.
type pair struct {
	t    *testing.T
	r    *rand.Rand
	c, d *clock.Clock
	b    *book
	met  map[string]int
}

func (p *pair) someName() string {
	if p.r.IntN(12) == 0 {
		return []string{"", "A", "a b", "b\n", strings.Repeat("a", 25), "\x80"}[p.r.IntN(6)]
	}
	return []string{"a", "b", "c", "b-1", strings.Repeat("z", 24)}[p.r.IntN(5)]
}

// some is a number near one, or any at all.
func (p *pair) some(near int) int {
	if p.r.IntN(40) == 0 {
		return ends[p.r.IntN(len(ends))]
	}
	return near + p.r.IntN(16) - 5
}

func (p *pair) any() {
	now := p.some(p.b.now())
	was, then := p.b.mark(), p.b.now()
	if p.r.IntN(4) == 0 {
		want := p.b.tick(now)
		if got, again := p.c.Tick(now), p.d.Tick(now); got != want || again != want {
			p.t.Errorf("Tick(%d): %d and %d, not %d", now, got, again, want)
		}
		p.met["tick"]++
	} else {
		name, at := p.someName(), p.some(was+p.b.slack)
		want := p.b.hear(name, at, now)
		if got, again := p.c.Hear(name, at, now), p.d.Hear(name, at, now); got != want || again != want {
			p.t.Errorf("Hear(%q, %d, %d): %t and %t, not %t", name, at, now, got, again, want)
		}
		if want {
			p.met["heard"]++
			if at <= was {
				p.t.Errorf("%d was heard behind a mark of %d", at, was)
			}
		} else {
			p.met["refused"]++
		}
	}
	if p.c.Mark() < was || p.c.Now() < then {
		p.t.Errorf("the mark falls from %d to %d, or now from %d to %d", was, p.c.Mark(), then, p.c.Now())
	}
	if p.c.Mark() > was {
		p.met["mark"]++
	}
	holds(p.t, p.c, p.b.lines()...)
	holds(p.t, p.d, p.b.lines()...)
}

// again decodes the second clock anew from the first one's bytes.
func (p *pair) again() {
	d, err := clock.Decode(p.c.Encode())
	if err != api.OK {
		p.t.Fatalf("%q: %d", p.c.Encode(), err)
	}
	p.d = d
	p.met["decoded"]++
}

// P6.1 to P6.4: any calls behind any calls, and a second clock that is decoded from the first one's bytes on the way.
func TestAnyCalls(t *testing.T) {
	r := rand.New(rand.NewPCG(1, 6))
	met := map[string]int{}
	for range 1500 {
		slack, idle := r.IntN(8), r.IntN(8)
		if r.IntN(10) == 0 {
			slack, idle = ends[r.IntN(len(ends))], ends[r.IntN(len(ends))]
		}
		p := &pair{t: t, r: r, c: clock.New(slack, idle), b: &book{slack: inside(slack), idle: inside(idle)}, met: met}
		p.again()
		for range 30 {
			p.any()
			if r.IntN(10) == 0 {
				p.again()
			}
		}
		if t.Failed() {
			t.FailNow()
		}
	}
	for _, what := range []string{"tick", "heard", "refused", "mark", "decoded"} {
		if met[what] < 1000 {
			t.Errorf("%s was met %d times", what, met[what])
		}
	}
}

// P6.4: neither the mark nor now falls, whatever comes.
func TestNothingFalls(t *testing.T) {
	c := clock.New(0, 3)
	mark, now := c.Mark(), c.Now()
	for i, n := range append(slices.Clone(ends), 5, 4, 9, 8, 100, 50, 0) {
		for _, at := range append(slices.Clone(ends), 7, 3, 12) {
			c.Hear([]string{"a", "b", "c"}[i%3], at, n)
			c.Tick(at)
			if c.Mark() < mark || c.Now() < now {
				t.Fatalf("from %d to %d, from %d to %d", mark, c.Mark(), now, c.Now())
			}
			mark, now = c.Mark(), c.Now()
		}
	}
	if mark != most-1 || now != most {
		t.Error(mark, now)
	}
}

// P6.4: a decoded clock goes on as the one does whose bytes they were, in what none of their numbers shows by itself, too.
func TestDecodedGoesOn(t *testing.T) {
	lines := []string{"clock 2 4 10 7", "a 12 6", "b 10 8", "c 30 5"}
	// c is no longer active, a just is
	for _, last := range []struct {
		now, mark int
		lines     []string
	}{
		{10, 7, lines},
		{11, 7, []string{"clock 2 4 11 7", "a 12 6", "b 10 8", "c 30 5"}},
		{12, 7, []string{"clock 2 4 12 7", "a 12 6", "b 10 8", "c 30 5"}},
		{13, 7, []string{"clock 2 4 13 7", "a 12 6", "b 10 8", "c 30 5"}},
	} {
		ticks(t, decoded(t, lines...), last.now, last.mark, last.lines...)
	}
	c := decoded(t, lines...)
	hears(t, c, "a", 7, 11, false, "clock 2 4 11 7", "a 12 6", "b 10 8", "c 30 5")
	hears(t, c, "a", 8, 11, true, "clock 2 4 11 7", "a 12 11", "b 10 8", "c 30 5")
	hears(t, c, "b", 20, 3, true, "clock 2 4 11 9", "a 12 11", "b 20 11", "c 30 5")
	hears(t, c, "c", 11, 15, true, "clock 2 4 15 9", "a 12 11", "b 20 11", "c 30 15")
	ticks(t, c, 16, 27, "clock 2 4 16 27", "a 12 11", "b 20 11", "c 30 15")
	// a mark that is above what the sources tell, without a source, too
	c = decoded(t, "clock 0 0 5 9")
	hears(t, c, "a", 9, 0, false, "clock 0 0 5 9")
	hears(t, c, "a", 10, 0, true, "clock 0 0 5 9", "a 10 5")
	hears(t, c, "a", 11, 0, true, "clock 0 0 5 10", "a 11 5")
	c = decoded(t, spaced("clock", 0, 0, 0, most))
	hears(t, c, "a", most, 0, false, spaced("clock", 0, 0, 0, most))
}
