package journal_test

import (
	"slices"
	"testing"

	"cicerone/api"
	"cicerone/event"
)

// R4: what is handed in isn't changed, nor its spare room, nor kept.
func TestHandedIn(t *testing.T) {
	d, l := start(t, 2)
	room := events(1, 2, 3, 4, 5)
	n, err := l.Append(room[:3]...)
	told(t, n, err, 0, api.OK)
	if !slices.Equal(room, events(1, 2, 3, 4, 5)) {
		t.Error(room)
	}
	for i := range room {
		room[i] = of(9)
	}
	holds(t, l, 2, 1, 2, 3)
	mustAppend(t, l, 4)
	if !slices.Equal(room, events(9, 9, 9, 9, 9)) {
		t.Error(room)
	}
	n, _, err = rewrite(l, 1, 2, 3)
	told(t, n, err, 3, api.OK)
	if !slices.Equal(room, events(9, 9, 9, 9, 9)) {
		t.Error(room)
	}
	holds(t, l, 4, 0, 0, 0, 4)
	lies(t, d, "j.0", written(0, 0), "j.1", written(0, 4))
}

// R4: what is answered is new memory, and shares none with what is answered later.
func TestAnswers(t *testing.T) {
	d, l := start(t, 2, 1, 0, 3)
	e, at, err := l.Read(0, 3)
	is(t, err, api.OK)
	again, atAgain, _ := l.Read(0, 3)
	for i := range e {
		e[i], at[i] = of(9), 99
	}
	e, at = append(e, of(9)), append(at, 99)
	e[2], at[2] = of(8), 98
	if !slices.Equal(again, events(1, 3)) || !slices.Equal(atAgain, []int{0, 2}) {
		t.Error(again, atAgain)
	}
	holds(t, l, 2, 1, 0, 3)
	mustAppend(t, l, 4)
	holds(t, l, 2, 1, 0, 3, 4)
	// what is done later doesn't show in them
	_, _, err = rewrite(l, 1, 3, 4)
	is(t, err, api.OK)
	if !slices.Equal(again, events(1, 3)) || !slices.Equal(atAgain, []int{0, 2}) {
		t.Error(again, atAgain)
	}
	holds(t, l, 4, 0, 0, 0, 0)
	holds(t, mustOpen(t, d, "j", 2), 4, 0, 0, 0, 0)
}

// R4: of a Read from the midst, what stands ahead and behind isn't touched by writing behind the answer.
func TestSpareRoomOfAnswers(t *testing.T) {
	_, l := start(t, 3, 1, 2, 3, 4, 5)
	e, at, _ := l.Read(1, 2)
	_ = append(e, of(9), of(9), of(9))
	_ = append(at, 9, 9, 9)
	holds(t, l, 3, 1, 2, 3, 4, 5)
}

// R5: a journal goes on by itself, not by a copy of its disk.
func TestCopiesOfTheDisk(t *testing.T) {
	d, l := start(t, 2, 1, 2, 3)
	c := d.Copy()
	mustAppend(t, l, 4)
	other := mustOpen(t, c, "j", 2)
	mustAppend(t, other, 5)
	_, err := other.Rewrite(func(event.Event) bool { return false })
	is(t, err, api.OK)
	holds(t, l, 2, 1, 2, 3, 4)
	holds(t, other, 4, 0, 0, 0, 0)
	lies(t, d, "j.0", written(1, 2), "j.1", written(3, 4))
	lies(t, c, "j.0", written(0, 0), "j.1", written(0, 0))
}
