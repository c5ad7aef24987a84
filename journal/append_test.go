package journal_test

import (
	"math"
	"strings"
	"testing"

	"cicerone/api"
	"cicerone/disk"
	"cicerone/event"
	"cicerone/journal"
)

// P5.2: the events stand behind, in order; the offset is that of the first one.
func TestAppend(t *testing.T) {
	d, l := start(t, 3)
	for _, c := range []struct {
		more           []int
		offset, length int
		lasting        int
	}{
		{[]int{1}, 0, 1, 0},
		{nil, 1, 1, 0},
		{[]int{2, 3}, 1, 3, 0},
		{nil, 3, 3, 0},
		{[]int{4}, 3, 4, 3},
		{[]int{5, 6, 7, 8, 9, 10, 11}, 4, 11, 9},
		{nil, 11, 11, 9},
		{[]int{12}, 11, 12, 9},
		{[]int{13}, 12, 13, 12},
	} {
		n, err := l.Append(events(c.more...)...)
		told(t, n, err, c.offset, api.OK)
		all := []int{1, 2, 3, 4, 5, 6, 7, 8, 9, 10, 11, 12, 13}
		holds(t, l, c.lasting, all[:c.length]...)
	}
	lies(t, d, "j.0", written(1, 2, 3), "j.1", written(4, 5, 6), "j.2", written(7, 8, 9), "j.3", written(10, 11, 12), "j.4", written(13))
}

// P5.2: of none: Len; nothing is done, not even a Sync where a segment would begin.
func TestAppendOfNone(t *testing.T) {
	for _, entries := range [][]int{nil, {1}, {1, 2}, {1, 2, 3}} {
		d, l := start(t, 2, entries...)
		lasting := l.Lasting()
		d.Arm(0)
		n, err := l.Append()
		told(t, n, err, len(entries), api.OK)
		n, err = l.Append([]event.Event{}...)
		told(t, n, err, len(entries), api.OK)
		holds(t, l, lasting, entries...)
		if d.Down() {
			t.Error("a step was done")
		}
	}
}

// P5.2: one event more than once, and out of order.
func TestAppendOfAlikeEvents(t *testing.T) {
	d, l := start(t, 2)
	n, err := l.Append(of(5), of(2), of(5))
	told(t, n, err, 0, api.OK)
	n, err = l.Append(of(5))
	told(t, n, err, 3, api.OK)
	holds(t, l, 2, 5, 2, 5, 5)
	lies(t, d, "j.0", written(5, 2), "j.1", written(5, 5))
}

// P5.2: with one place a segment each entry is a file of its own, and all ahead of the last one last.
func TestAppendOfOnePlace(t *testing.T) {
	d, l := start(t, 1)
	mustAppend(t, l, 1)
	holds(t, l, 0, 1)
	mustAppend(t, l, 2, 3)
	holds(t, l, 2, 1, 2, 3)
	lies(t, d, "j.0", written(1), "j.1", written(2), "j.2", written(3))
}

// P5.2: each kind, at the ends of what may be.
func TestAppendOfAnyKind(t *testing.T) {
	long := strings.Repeat("z", api.MaxName)
	tags := make([]string, api.MaxTags)
	for i := range tags {
		tags[i] = long[1:] + string(rune('a'+i))
	}
	text := long + ";" + strings.Join(tags, ",")
	all := []event.Event{
		{Source: long, Number: api.MaxNumber, At: api.MaxTime, Kind: event.Listed, Item: long, Value: api.MaxValue, Text: text},
		{Source: "-", Number: 1, Kind: event.Seen, Person: "p", Item: "q"},
		{Source: "0", Number: 127, At: 128, Kind: event.Finished, Person: long, Item: long},
		{Source: "s", Number: 16384, At: 1, Kind: event.Bought, Person: "p", Item: "q"},
		{Source: "s", Number: 2, Kind: event.Hidden, Person: "p", Item: "q"},
		{Source: "s", Number: 2, Kind: event.Unhidden, Person: "p", Item: "q"},
		{Source: "s", Number: 2, Kind: event.Followed, Person: "p", Text: "m"},
		{Source: "s", Number: 2, Kind: event.Unfollowed, Person: "p", Text: "m"},
		{Source: "s", Number: 2, Kind: event.Muted, Person: "p", Text: "m"},
		{Source: "s", Number: 2, Kind: event.Unmuted, Person: "p", Text: long},
		{Source: "s", Number: 2, Kind: event.Stocked, Item: "q"},
		{Source: "s", Number: 2, Kind: event.Delisted, Item: "q"},
		{Source: "s", Number: 1, Kind: event.Forgotten, Person: "p"},
	}
	for _, per := range []int{1, 5, 4096} {
		d := disk.New()
		l := mustOpen(t, d, "j", per)
		n, err := l.Append(all...)
		told(t, n, err, 0, api.OK)
		is(t, l.Sync(), api.OK)
		for _, l := range []*journal.Log{l, mustOpen(t, d, "j", per)} {
			got, _, err := l.Read(0, len(all))
			is(t, err, api.OK)
			for i := range all {
				if got[i] != all[i] {
					t.Errorf("%v, not %v", got[i], all[i])
				}
			}
		}
	}
}

// P5.2: ErrArg, if one of them may not be, wherever it stands: nothing is done.
func TestAppendOfAnEventThatMayNotBe(t *testing.T) {
	wrong := []event.Event{
		{},
		{Source: "s", Number: 0, Kind: event.Forgotten, Person: "p"},
		{Source: "S", Number: 1, Kind: event.Forgotten, Person: "p"},
		{Source: "s", Number: 1, At: -1, Kind: event.Forgotten, Person: "p"},
		{Source: "s", Number: math.MinInt, At: math.MaxInt, Kind: event.Forgotten, Person: "p"},
		{Source: "s", Number: 1, Kind: 15, Person: "p"},
		{Source: "s", Number: 1, Kind: -1, Person: "p"},
		{Source: "s", Number: 1, Kind: event.Forgotten, Person: "p", Value: 1},
		{Source: "s", Number: 1, Kind: event.Rated, Person: "p", Item: "q", Value: 6},
		{Source: strings.Repeat("s", 70000), Number: 1, Kind: event.Forgotten, Person: "p"},
	}
	for _, w := range wrong {
		for at := range 5 {
			d, l := start(t, 2, 1)
			all := events(2, 3, 4, 5)
			all = append(all[:at], append([]event.Event{w}, all[at:]...)...)
			was := d.Copy()
			n, err := l.Append(all...)
			told(t, n, err, 0, api.ErrArg)
			holds(t, l, 0, 1)
			alike(t, d, was)
			// it isn't stuck
			mustAppend(t, l, 2, 3)
			holds(t, l, 2, 1, 2, 3)
		}
	}
	_, l := start(t, 2, 1, 2)
	n, err := l.Append(wrong...)
	told(t, n, err, 0, api.ErrArg)
	holds(t, l, 0, 1, 2)
}

// appending is the call of Append in theSteps, to a journal that has those ahead, of which so many last.
func appending(t *testing.T, per, lasting int, ahead []int, more ...int) func(*disk.Disk, *journal.Log, int) api.Errno {
	return func(_ *disk.Disk, l *journal.Log, done int) api.Errno {
		n, err := l.Append(events(more...)...)
		if n != len(ahead) {
			t.Errorf("the offset is %d, not %d", n, len(ahead))
		}
		all, lasts := append([]int{}, ahead...), lasting
		for i := range more {
			if len(all) > 0 && len(all)%per == 0 {
				if done == 0 {
					break
				}
				lasts = len(all)
				done--
			}
			if done == 0 {
				break
			}
			all = append(all, more[i])
			done--
		}
		holds(t, l, lasts, all...)
		return err
	}
}

// P5.2: what an Append does on the disk, with each fuse: those ahead of the error stand.
func TestStepsOfAppend(t *testing.T) {
	on := func(per int, ahead ...int) func() (*disk.Disk, *journal.Log) {
		return func() (*disk.Disk, *journal.Log) { return start(t, per, ahead...) }
	}
	first := step{"append", "j.0", written(1)}
	second := step{"append", "j.0", written(2)}
	theSteps(t, on(2), appending(t, 2, 0, nil, 1, 2, 3, 4, 5), first, second, step{"sync", "j.0", ""}, step{"append", "j.1", written(3)}, step{"append", "j.1", written(4)}, step{"sync", "j.1", ""}, step{"append", "j.2", written(5)})
	theSteps(t, on(3), appending(t, 3, 0, nil, 1, 2), first, second)
	theSteps(t, on(2, 1), appending(t, 2, 0, []int{1}, 2, 3), second, step{"sync", "j.0", ""}, step{"append", "j.1", written(3)})
	theSteps(t, on(2, 1, 2), appending(t, 2, 0, []int{1, 2}, 3), step{"sync", "j.0", ""}, step{"append", "j.1", written(3)})
	theSteps(t, on(1, 1, 2), appending(t, 1, 1, []int{1, 2}, 3, 4), step{"sync", "j.1", ""}, step{"append", "j.2", written(3)}, step{"sync", "j.2", ""}, step{"append", "j.3", written(4)})
	// a file that was synced is synced once more
	theSteps(t, func() (*disk.Disk, *journal.Log) {
		d, l := start(t, 2, 1, 2)
		is(t, l.Sync(), api.OK)
		return d, l
	}, appending(t, 2, 2, []int{1, 2}, 3), step{"sync", "j.0", ""}, step{"append", "j.1", written(3)})
}

// P5.2: a last file that is there without entries is synced ahead of the first one in it.
func TestStepsOfAppendToALastFileWithoutEntries(t *testing.T) {
	ahead := func(files ...string) func() (*disk.Disk, *journal.Log) {
		return func() (*disk.Disk, *journal.Log) {
			d := diskWith(t, files...)
			return d, mustOpen(t, d, "j", 2)
		}
	}
	call := func(entries ...int) func(*disk.Disk, *journal.Log, int) api.Errno {
		return func(_ *disk.Disk, l *journal.Log, done int) api.Errno {
			lasting := len(entries)
			n, err := l.Append(of(7))
			told(t, n, err, lasting, err)
			if done == 2 {
				holds(t, l, lasting, append(entries[:lasting:lasting], 7)...)
			} else {
				holds(t, l, lasting, entries...)
			}
			return err
		}
	}
	theSteps(t, ahead("j.0", ""), call(), step{"sync", "j.0", ""}, step{"append", "j.0", written(7)})
	theSteps(t, ahead("j.0", "\x00"), call(), step{"sync", "j.0", ""}, step{"append", "j.0", written(7)})
	theSteps(t, ahead("j.0", written(1, 2), "j.1", ""), call(1, 2), step{"sync", "j.1", ""}, step{"append", "j.1", written(7)})
}
