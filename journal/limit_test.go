package journal_test

import (
	"slices"
	"strconv"
	"testing"

	"cicerone/api"
	"cicerone/event"
	"cicerone/journal"
)

// small is an event whose frame has 20 bytes.
var small = event.Event{Source: "s", Number: 1, Kind: event.Forgotten, Person: "p"}

// mostSmall is how many frames of it a disk takes.
const mostSmall = api.MaxDisk / 20

// fits holds the length of a journal, and how much of it lasts, without looking at each entry.
func fits(t *testing.T, l *journal.Log, length, lasting int) {
	t.Helper()
	if l.Len() != length || l.Lasting() != lasting {
		t.Errorf("%d entries, of which %d last, not %d, %d", l.Len(), l.Lasting(), length, lasting)
	}
}

// P5.1, P5.2: segments of 4096 places.
func TestMostPlaces(t *testing.T) {
	d, l := start(t, 4096)
	n, err := l.Append(slices.Repeat([]event.Event{small}, 4096)...)
	told(t, n, err, 0, api.OK)
	fits(t, l, 4096, 0)
	if names := d.Names(); !slices.Equal(names, []string{"j.0"}) {
		t.Error(names)
	}
	n, err = l.Append(small)
	told(t, n, err, 4096, api.OK)
	fits(t, l, 4097, 4096)
	if names := d.Names(); !slices.Equal(names, []string{"j.0", "j.1"}) {
		t.Error(names)
	}
	fits(t, mustOpen(t, d, "j", 4096), 4097, 4097)
	refused(t, d, "j", 4095, api.ErrBad)
	is(t, d.Remove("j.1"), api.OK)
	refused(t, d, "j", 4095, api.ErrBad)
	fits(t, mustOpen(t, d, "j", 4096), 4096, 4096)
	is(t, d.Append("j.0", []byte(sealed(""))), api.OK)
	refused(t, d, "j", 4096, api.ErrBad)
}

// P5.2: ErrFull, if there would be more than MaxEvents entries: nothing is done, and the journal isn't stuck. One less is the disk's to refuse.
func TestMostEvents(t *testing.T) {
	many := slices.Repeat([]event.Event{small}, api.MaxEvents+1)
	for _, ahead := range []int{0, 1, 4096, 5000} {
		d, l := start(t, 4096)
		_, err := l.Append(many[:ahead]...)
		is(t, err, api.OK)
		was := d.Copy()
		lasting := l.Lasting()
		n, err := l.Append(many[:api.MaxEvents+1-ahead]...)
		told(t, n, err, 0, api.ErrFull)
		n, err = l.Append(many...)
		told(t, n, err, 0, api.ErrFull)
		fits(t, l, ahead, lasting)
		alike(t, d, was)
		is(t, l.Sync(), api.OK)

		n, err = l.Append(many[:api.MaxEvents-ahead]...)
		told(t, n, err, ahead, api.ErrFull)
		last := mostSmall / 4096 * 4096
		fits(t, l, mostSmall, last)
		is(t, l.Sync(), api.ErrFull)
		fits(t, l, mostSmall, last)
		c := d.Copy()
		c.Crash()
		fits(t, mustOpen(t, c, "j", 4096), last, last)
		fits(t, mustOpen(t, d, "j", 4096), mostSmall, mostSmall)
	}
}

// P5.2: erased entries count as well.
func TestMostEventsWithErasedOnes(t *testing.T) {
	_, l := start(t, 2, 0, 0, 3)
	many := slices.Repeat([]event.Event{small}, api.MaxEvents-2)
	n, err := l.Append(many...)
	told(t, n, err, 0, api.ErrFull)
	holds(t, l, 2, 0, 0, 3)
}

// P5.2: two errors at once, of which the journal's own ErrFull is one.
func TestOrderOfErrorsOfAppend(t *testing.T) {
	many := slices.Repeat([]event.Event{small}, api.MaxEvents+1)
	for _, at := range []int{0, 5, api.MaxEvents} {
		_, l := start(t, 2, 1)
		many[at].Number = 0
		n, err := l.Append(many...)
		told(t, n, err, 0, api.ErrArg)
		many[at].Number = 1
		holds(t, l, 0, 1)
	}
	d, l := start(t, 2, 1)
	goDown(t, d)
	n, err := l.Append(many...)
	told(t, n, err, 0, api.ErrFull)
	n, err = l.Append(of(2), event.Event{})
	told(t, n, err, 0, api.ErrArg)
	n, err = l.Append(of(2))
	told(t, n, err, 1, api.ErrDown)
	n, err = l.Append(many...)
	told(t, n, err, 0, api.ErrDown)
}

// P5.2: as many files as a disk takes.
func TestMostFiles(t *testing.T) {
	d, l := start(t, 1)
	n, err := l.Append(slices.Repeat([]event.Event{small}, 4098)...)
	told(t, n, err, 0, api.ErrFull)
	fits(t, l, 4096, 4096)
	n, err = l.Append(small)
	told(t, n, err, 0, api.ErrFull)
	d.Crash()
	l = mustOpen(t, d, "j", 1)
	fits(t, l, 4096, 4096)
	n, err = l.Rewrite(func(event.Event) bool { return false })
	told(t, n, err, 4096, api.OK)
	for k := range 4096 {
		if b, err := d.Read("j." + strconv.Itoa(k)); err != api.OK || string(b) != sealed("") {
			t.Fatal(k, b, err)
		}
	}
	fits(t, mustOpen(t, d, "j", 1), 4096, 4096)
}

// P5.5: an erased entry makes room for others.
func TestRoomBehindRewrite(t *testing.T) {
	d, l := start(t, 4096)
	n, err := l.Append(slices.Repeat([]event.Event{small}, mostSmall)...)
	told(t, n, err, 0, api.OK)
	at := 0
	n, err = l.Rewrite(func(event.Event) bool {
		at++
		return at > 1 && at < mostSmall
	})
	told(t, n, err, 2, api.OK)
	fits(t, l, mostSmall, mostSmall)
	n, err = l.Append(small, small)
	told(t, n, err, mostSmall, api.ErrFull)
	fits(t, l, mostSmall+1, mostSmall)
	_, places, err := l.Read(mostSmall-2, 9)
	if err != api.OK || !slices.Equal(places, []int{mostSmall - 2, mostSmall}) {
		t.Error(places, err)
	}
	d.Crash(make([]int, 99)...)
	fits(t, mustOpen(t, d, "j", 4096), mostSmall, mostSmall)
}
