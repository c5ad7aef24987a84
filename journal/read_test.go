package journal_test

import (
	"math"
	"slices"
	"testing"

	"cicerone/api"
)

// P5.4: from each offset, each number of offsets, with erased ones between.
func TestRead(t *testing.T) {
	for _, entries := range [][]int{
		nil,
		{1},
		{0},
		{1, 2, 3, 4, 5},
		{0, 2, 0, 0, 5, 6, 0},
		{0, 0, 0, 0},
		{1, 0, 0, 0, 0, 6},
	} {
		for _, per := range []int{1, 2, 3, 4096} {
			d, l := start(t, per, entries...)
			is(t, l.Sync(), api.OK)
			again := mustOpen(t, d, "j", per)
			for from := range len(entries) + 1 {
				for _, n := range []int{0, 1, 2, 3, 4, 5, 6, 7, 8, 9, math.MaxInt - from, math.MaxInt} {
					var want, at []int
					for i := from; i-from < n && i < len(entries); i++ {
						if entries[i] > 0 {
							want, at = append(want, entries[i]), append(at, i)
						}
					}
					for range 2 {
						e, offsets, err := l.Read(from, n)
						if err != api.OK || !slices.Equal(e, events(want...)) || !slices.Equal(offsets, at) {
							t.Errorf("%v, Read(%d, %d): %v, %v, %d", entries, from, n, e, offsets, err)
						}
						l, again = again, l
					}
				}
			}
		}
	}
}

// P5.4: ErrRange, if from isn't from 0 to Len, or n is below 0; nothing is beside it.
func TestReadOutOfRange(t *testing.T) {
	for _, entries := range [][]int{nil, {1}, {1, 0, 3}} {
		_, l := start(t, 2, entries...)
		size := len(entries)
		for _, c := range [][2]int{
			{-1, 0}, {-1, 1}, {-1, 2}, {math.MinInt, 1}, {math.MinInt, math.MaxInt},
			{size + 1, 0}, {size + 1, 1}, {math.MaxInt, 0}, {math.MaxInt, math.MaxInt},
			{0, -1}, {size, -1}, {0, math.MinInt}, {size, math.MinInt},
			{-1, -1}, {size + 1, -1}, {math.MaxInt, math.MinInt},
		} {
			e, at, err := l.Read(c[0], c[1])
			if err != api.ErrRange || e != nil || at != nil {
				t.Errorf("Read(%d, %d) of %v: %v, %v, %d", c[0], c[1], entries, e, at, err)
			}
		}
		if e, at, err := l.Read(size, 1); err != api.OK || len(e) != 0 || len(at) != 0 {
			t.Error(e, at, err)
		}
	}
}

// P5.4: entries that don't last yet are read as well; and a Read does nothing.
func TestReadDoesNothing(t *testing.T) {
	d, l := start(t, 2, 1, 2, 3)
	d.Arm(0)
	was := d.Copy()
	for range 3 {
		holds(t, l, 2, 1, 2, 3)
	}
	alike(t, d, was)
	goDown(t, d)
	holds(t, l, 2, 1, 2, 3)
	d.Crash()
	holds(t, mustOpen(t, d, "j", 2), 2, 1, 2)
}
