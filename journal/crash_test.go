package journal_test

import (
	"math"
	"slices"
	"strings"
	"testing"

	"cicerone/api"
	"cicerone/disk"
	"cicerone/event"
	"cicerone/journal"
)

// crashes holds what is there behind crashes of the disk that leave any number of bytes, and Open: a beginning of these entries, from least on to most, and then all goes on.
func crashes(t *testing.T, d *disk.Disk, per, least, most int, entries ...int) {
	t.Helper()
	before := least
	for left := range 200 {
		if left == 199 {
			left = math.MaxInt
		}
		c := d.Copy()
		c.Crash(slices.Repeat([]int{left}, 9)...)
		torn := c.Copy()
		l := mustOpen(t, c, "j", per)
		n := l.Len()
		if n < before || n > most || left == 0 && n != least || left == math.MaxInt && n != most {
			t.Errorf("%d entries are left with %d bytes, %d were with fewer, from %d to %d there may be", n, left, before, least, most)
			return
		}
		before = n
		holds(t, l, n, entries[:n]...)
		c.Crash()
		l = mustOpen(t, c, "j", per)
		holds(t, l, n, entries[:n]...)
		more := append(slices.Clone(entries[:n]), 61, 62, 63)
		mustAppend(t, l, more[n:]...)
		is(t, l.Sync(), api.OK)
		c.Crash()
		holds(t, mustOpen(t, c, "j", per), n+3, more...)

		// a crash in the midst of Open
		torn.Arm(0)
		if l, err := journal.Open(torn, "j", per); len(torn.Names()) > 0 && (l != nil || err != api.ErrDown) {
			t.Error(err)
		}
		torn.Crash()
		holds(t, mustOpen(t, torn, "j", per), n, entries[:n]...)
	}
}

// P5.6: behind an Append that begins segments, cut off by each fuse: a beginning of what was appended, at least what lasted.
func TestCrashesBehindAppend(t *testing.T) {
	all := []int{1, 2, 3, 4, 5, 6, 7}
	// by the fuse: how many last, and how many may be there; the steps are those of 2 to 6 behind 1
	for fuse, c := range [][2]int{
		{0, 2}, // append 2: its bytes stand there all the same
		{0, 2}, // sync j.0
		{2, 3}, // append 3
		{2, 4}, // append 4
		{2, 4}, // sync j.1
		{4, 5}, // append 5
		{4, 6}, // append 6
		{4, 6}, // none
	} {
		d, l := start(t, 2, 1)
		d.Arm(fuse)
		n, err := l.Append(events(2, 3, 4, 5, 6)...)
		if n != 1 || (err == api.OK) != (fuse == 7) {
			t.Error(n, err)
		}
		if l.Lasting() != c[0] {
			t.Errorf("a fuse of %d: %d last", fuse, l.Lasting())
		}
		crashes(t, d, 2, c[0], c[1], all...)
		if t.Failed() {
			t.Fatal("a fuse of", fuse)
		}
	}
}

// P5.6: behind Append, Sync, and Append again.
func TestCrashesBehindSync(t *testing.T) {
	d, l := start(t, 4, 1, 2, 3)
	crashes(t, d, 4, 0, 3, 1, 2, 3)
	d.Arm(0)
	is(t, l.Sync(), api.ErrDown)
	crashes(t, d, 4, 0, 3, 1, 2, 3)

	d, l = start(t, 4, 1, 2)
	is(t, l.Sync(), api.OK)
	crashes(t, d, 4, 2, 2, 1, 2)
	mustAppend(t, l, 3, 4)
	crashes(t, d, 4, 2, 4, 1, 2, 3, 4)
	mustAppend(t, l, 5)
	crashes(t, d, 4, 4, 5, 1, 2, 3, 4, 5)
}

// P5.6: behind a Rewrite that is cut off by each fuse: a segment's entries are erased, or stay, all together.
func TestCrashesBehindRewrite(t *testing.T) {
	for fuse, c := range []struct {
		least int
		left  []int
	}{
		{4, []int{1, 2, 3, 4, 5, 6}},
		{4, []int{0, 2, 3, 4, 5, 6}},
		{4, []int{0, 2, 0, 0, 5, 6}},
		{6, []int{0, 2, 0, 0, 5, 0}},
	} {
		d, l := start(t, 2, 1, 2, 3, 4, 5, 6)
		d.Arm(fuse)
		n, _, err := rewrite(l, 1, 3, 4, 6)
		if n != []int{0, 1, 3, 4}[fuse] || (err == api.OK) != (fuse == 3) {
			t.Error(n, err)
		}
		if l.Lasting() != c.least {
			t.Error(l.Lasting())
		}
		crashes(t, d, 2, c.least, 6, c.left...)

		// done again, it goes on
		d.Crash(math.MaxInt, math.MaxInt, math.MaxInt)
		l = mustOpen(t, d, "j", 2)
		erases(t, l, []int{1, 3, 4, 6}, c.left, 6, 0, 2, 0, 0, 5, 0)
		crashes(t, d, 2, 6, 6, 0, 2, 0, 0, 5, 0)
		if t.Failed() {
			t.Fatal("a fuse of", fuse)
		}
	}
}

// P5.6: behind an Open that was cut off: the entries that don't last yet, and torn bytes behind them, are as they were.
func TestCrashesBehindOpen(t *testing.T) {
	torn := written(5)[:20]
	for _, last := range []string{written(3, 4), written(3, 4) + torn, torn, ""} {
		for _, ahead := range []string{"", written(3)} {
			d := diskWith(t, "j.0", written(1, 2, 0), "j.1", ahead)
			rest, _ := strings.CutPrefix(last, ahead)
			is(t, d.Append("j.1", []byte(rest)), api.OK)
			d.Arm(0)
			refusedByTheFuse(t, d)
			least, most := 3, 3
			if ahead != "" {
				least, most = 4, 4
			}
			if strings.HasPrefix(last, written(3, 4)) {
				most = 5
			}
			crashes(t, d, 3, least, most, 1, 2, 0, 3, 4)
			if t.Failed() {
				t.Fatalf("%q behind %q", rest, ahead)
			}
		}
	}
}

func refusedByTheFuse(t *testing.T, d *disk.Disk) {
	t.Helper()
	if l, err := journal.Open(d, "j", 3); l != nil || err != api.ErrDown || !d.Down() {
		t.Errorf("told %d, down is %v", err, d.Down())
	}
}

// P5.6: an erased event doesn't come back, nor does one that comes behind take its offset.
func TestCrashesBehindRewriteAndAppend(t *testing.T) {
	d, l := start(t, 3, 1, 2, 3, 4)
	erases(t, l, []int{2, 4}, []int{1, 2, 3, 4}, 4, 1, 0, 3, 0)
	mustAppend(t, l, 5, 6)
	crashes(t, d, 3, 4, 6, 1, 0, 3, 0, 5, 6)
	mustAppend(t, l, 7)
	crashes(t, d, 3, 6, 7, 1, 0, 3, 0, 5, 6, 7)
	d.Arm(1)
	n, err := l.Append(of(8), of(9))
	told(t, n, err, 7, api.ErrDown)
	crashes(t, d, 3, 6, 9, 1, 0, 3, 0, 5, 6, 7, 8, 9)
}

// P5.6: an Append that the disk has no room for leaves nothing of the event that it was told of.
func TestCrashesBehindAFullDisk(t *testing.T) {
	d, l := start(t, 2, 1, 2)
	fill(t, d)
	is(t, appendOne(l), api.ErrFull)
	is(t, d.Remove("full"), api.OK)
	crashes(t, d, 2, 2, 2, 1, 2)
	_, err := l.Rewrite(func(event.Event) bool { return false })
	is(t, err, api.ErrFull)
	crashes(t, d, 2, 2, 2, 1, 2)
}
