package journal_test

import (
	"slices"
	"strings"
	"testing"

	"cicerone/api"
	"cicerone/disk"
	"cicerone/event"
	"cicerone/journal"
)

// rewrite erases the events of these numbers; it tells which were asked for, one behind the other.
func rewrite(l *journal.Log, gone ...int) (int, []int, api.Errno) {
	var asked []int
	n, err := l.Rewrite(func(e event.Event) bool {
		if e != of(e.Number) {
			asked = append(asked, -1)
		}
		asked = append(asked, e.Number)
		return !slices.Contains(gone, e.Number)
	})
	return n, asked, err
}

// erases holds a Rewrite that goes well against what is asked for, and what is there behind it.
func erases(t *testing.T, l *journal.Log, gone, was []int, lasting int, left ...int) {
	t.Helper()
	n, asked, err := rewrite(l, gone...)
	told(t, n, err, len(live(was))-len(live(left)), api.OK)
	if !slices.Equal(asked, live(was)) {
		t.Errorf("asked for %v, not %v", asked, live(was))
	}
	holds(t, l, lasting, left...)
}

// live is the entries with an event.
func live(entries []int) []int {
	var l []int
	for _, n := range entries {
		if n > 0 {
			l = append(l, n)
		}
	}
	return l
}

// P5.5: none, some and all of a segment's entries, of the last one, and of those ahead.
func TestRewrite(t *testing.T) {
	all := []int{1, 2, 3, 4, 5}
	for _, c := range []struct {
		gone    []int
		lasting int
		left    []int
	}{
		{nil, 4, all},
		{[]int{9}, 4, all},
		{[]int{1}, 4, []int{0, 2, 3, 4, 5}},
		{[]int{2}, 4, []int{1, 0, 3, 4, 5}},
		{[]int{1, 2}, 4, []int{0, 0, 3, 4, 5}},
		{[]int{4}, 4, []int{1, 2, 3, 0, 5}},
		{[]int{3, 4}, 4, []int{1, 2, 0, 0, 5}},
		{[]int{5}, 5, []int{1, 2, 3, 4, 0}},
		{[]int{2, 3}, 4, []int{1, 0, 0, 4, 5}},
		{[]int{1, 5}, 5, []int{0, 2, 3, 4, 0}},
		{[]int{4, 5}, 5, []int{1, 2, 3, 0, 0}},
		{all, 5, []int{0, 0, 0, 0, 0}},
	} {
		d, l := start(t, 2, all...)
		erases(t, l, c.gone, all, c.lasting, c.left...)
		lies(t, d, "j.0", written(c.left[:2]...), "j.1", written(c.left[2:4]...), "j.2", written(c.left[4:]...))
		// once more: nothing is asked for twice, and nothing is left to erase
		erases(t, l, c.gone, c.left, c.lasting, c.left...)
		is(t, l.Sync(), api.OK)
		holds(t, mustOpen(t, d, "j", 2), 5, c.left...)
		d.Crash()
		holds(t, mustOpen(t, d, "j", 2), 5, c.left...)
	}
}

// P5.5: of the last segment all entries last behind it, if one was erased there.
func TestRewriteOfTheLastSegment(t *testing.T) {
	d, l := start(t, 4, 1, 2, 3)
	holds(t, l, 0, 1, 2, 3)
	erases(t, l, nil, []int{1, 2, 3}, 0, 1, 2, 3)
	c := d.Copy()
	c.Crash()
	lies(t, c)
	erases(t, l, []int{2}, []int{1, 2, 3}, 3, 1, 0, 3)
	mustAppend(t, l, 4)
	holds(t, l, 3, 1, 0, 3, 4)
	d.Crash()
	lies(t, d, "j.0", written(1, 0, 3))

	// of one ahead they don't
	d, l = start(t, 2, 1, 2, 3)
	erases(t, l, []int{1, 2}, []int{1, 2, 3}, 2, 0, 0, 3)
	d.Crash()
	lies(t, d, "j.0", written(0, 0))

	// a last segment that is full
	d, l = start(t, 2, 1, 2, 3, 4)
	erases(t, l, []int{3}, []int{1, 2, 3, 4}, 4, 1, 2, 0, 4)
	d.Crash()
	lies(t, d, "j.0", written(1, 2), "j.1", written(0, 4))
}

// P5.5: twice one behind the other, with others between; offsets stay.
func TestRewriteTwice(t *testing.T) {
	d, l := start(t, 3, 1, 2, 3, 4)
	erases(t, l, []int{2}, []int{1, 2, 3, 4}, 3, 1, 0, 3, 4)
	erases(t, l, []int{3, 2, 4}, []int{1, 0, 3, 4}, 4, 1, 0, 0, 0)
	n, err := l.Append(of(5))
	told(t, n, err, 4, api.OK)
	erases(t, l, nil, []int{1, 0, 0, 0, 5}, 4, 1, 0, 0, 0, 5)
	mustAppend(t, l, 6, 7)
	holds(t, l, 6, 1, 0, 0, 0, 5, 6, 7)
	erases(t, l, []int{1, 7}, []int{1, 0, 0, 0, 5, 6, 7}, 7, 0, 0, 0, 0, 5, 6, 0)
	l = mustOpen(t, d, "j", 3)
	erases(t, l, []int{5, 6}, []int{0, 0, 0, 0, 5, 6, 0}, 7, 0, 0, 0, 0, 0, 0, 0)
	erases(t, l, []int{5, 6}, []int{0, 0, 0, 0, 0, 0, 0}, 7, 0, 0, 0, 0, 0, 0, 0)
	lies(t, d, "j.0", written(0, 0, 0), "j.1", written(0, 0, 0), "j.2", written(0))
}

// P5.5: an event that is there more than once is asked for each time.
func TestRewriteOfAlikeEvents(t *testing.T) {
	_, l := start(t, 2, 7, 7, 7)
	turn := 0
	n, err := l.Rewrite(func(e event.Event) bool {
		turn++
		return turn != 2
	})
	told(t, n, err, 1, api.OK)
	holds(t, l, 2, 7, 0, 7)
	erases(t, l, []int{7}, []int{7, 0, 7}, 3, 0, 0, 0)
}

// P5.5: an empty journal, and one whose last file is without entries.
func TestRewriteOfNothing(t *testing.T) {
	d, l := start(t, 2)
	erases(t, l, nil, nil, 0)
	lies(t, d)
	d = diskWith(t, "j.0", "")
	erases(t, mustOpen(t, d, "j", 2), nil, nil, 0)
	lies(t, d, "j.0", "")
}

// P5.5: keep is asked segment by segment: what is told of one ahead lies on the disk already.
func TestRewriteSegmentBySegment(t *testing.T) {
	d, l := start(t, 2, 1, 2, 3, 4, 5)
	var lay []string
	n, err := l.Rewrite(func(e event.Event) bool {
		b, _ := d.Read("j.0")
		lay = append(lay, string(b))
		return e.Number != 1
	})
	told(t, n, err, 1, api.OK)
	was, is := written(1, 2), written(0, 2)
	if !slices.Equal(lay, []string{was, was, is, is, is}) {
		t.Errorf("%q", lay)
	}
}

// P5.5: what a Rewrite does on the disk, with each fuse: a Replace for each segment of which one is erased; at an error that segment's entries stay, and those behind it aren't asked for.
func TestStepsOfRewrite(t *testing.T) {
	all := []int{1, 2, 0, 4, 5, 6, 7}
	replaced := func(k string, entries ...int) step {
		return step{"replace", "j." + k, written(entries...)}
	}
	for _, c := range []struct {
		gone  []int
		count []int // erased, by how many steps were done
		asked []int
		left  [][]int
		last  []int // how many last
		steps []step
	}{
		{nil, []int{0}, []int{6}, [][]int{all}, []int{6}, nil},
		{[]int{1, 5}, []int{0, 1, 2}, []int{2, 5, 6}, [][]int{all, {0, 2, 0, 4, 5, 6, 7}, {0, 2, 0, 4, 0, 6, 7}}, []int{6, 6, 6},
			[]step{replaced("0", 0, 2), replaced("2", 0, 6)}},
		{[]int{1, 2, 4, 7}, []int{0, 2, 3, 4}, []int{2, 3, 6, 6}, [][]int{all, {0, 0, 0, 4, 5, 6, 7}, {0, 0, 0, 0, 5, 6, 7}, {0, 0, 0, 0, 5, 6, 0}}, []int{6, 6, 6, 7},
			[]step{replaced("0", 0, 0), replaced("1", 0, 0), replaced("3", 0)}},
		{[]int{7}, []int{0, 1}, []int{6, 6}, [][]int{all, {1, 2, 0, 4, 5, 6, 0}}, []int{6, 7}, []step{replaced("3", 0)}},
	} {
		theSteps(t, func() (*disk.Disk, *journal.Log) {
			d, l := start(t, 2, 1, 2, 1000, 4, 5, 6)
			erases(t, l, []int{1000}, []int{1, 2, 1000, 4, 5, 6}, 4, all[:6]...)
			mustAppend(t, l, 7)
			return d, l
		}, func(_ *disk.Disk, l *journal.Log, done int) api.Errno {
			n, asked, err := rewrite(l, c.gone...)
			if n != c.count[done] || !slices.Equal(asked, live(all)[:c.asked[done]]) {
				t.Errorf("%v: %d, asked for %v behind %d steps", c.gone, n, asked, done)
			}
			holds(t, l, c.last[done], c.left[done]...)
			return err
		}, c.steps...)
	}
}

// P5.6: of an erased event nothing is left on the disk.
func TestNothingIsLeft(t *testing.T) {
	d, l := start(t, 3, 1, 2, 3, 4, 5, 6, 7, 8)
	gone := []int{2, 3, 5, 8}
	_, _, err := rewrite(l, gone...)
	is(t, err, api.OK)
	for _, left := range []int{0, 1, 1000} {
		lay := afterCrash(d, left)
		for n := 1; n <= 8; n++ {
			if strings.Contains(lay, mark(n)) == slices.Contains(gone, n) {
				t.Errorf("event %d: %s", n, lay)
			}
		}
	}
}
