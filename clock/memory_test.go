package clock_test

import (
	"slices"
	"testing"

	"cicerone/api"
	"cicerone/clock"
)

// R4: the bytes that are handed in are neither changed nor kept, their spare room neither.
func TestHandedIn(t *testing.T) {
	s := "clock 1 4 5 5\na 9 5\nb-1 7 2\n"
	room := []byte(s + "spare room")
	c, err := clock.Decode(room[:len(s)])
	if err != api.OK || string(room) != s+"spare room" {
		t.Fatalf("%d, %q", err, room)
	}
	for i := range room {
		room[i] = 'x'
	}
	holds(t, c, "clock 1 4 5 5", "a 9 5", "b-1 7 2")
	hears(t, c, "a", 10, 5, true, "clock 1 4 5 5", "a 10 5", "b-1 7 2")
	_ = c.Encode()
	for _, b := range room {
		if b != 'x' {
			t.Fatalf("%q", room)
		}
	}
	// bytes that are no clock's
	room = []byte("clock 1 4 5 4\na 9 5\nb-1 7 2\nspare room")
	was := slices.Clone(room)
	if _, err := clock.Decode(room[:len(s)]); err != api.ErrForm || !slices.Equal(room, was) {
		t.Errorf("%d, %q", err, room)
	}
}

// R4: what is answered is new memory, and shares none with what is answered later.
func TestAnswers(t *testing.T) {
	c := clock.New(1, 4)
	c.Hear("b-1", 7, 2)
	c.Hear("a", 9, 5)
	names, again := c.Sources(), c.Sources()
	b, more := c.Encode(), c.Encode()
	for i := range names {
		names[i] = "x"
	}
	_ = append(names, "y", "z")
	for i := range b {
		b[i] = 'x'
	}
	for range 100 {
		b = append(b, 'y')
	}
	if !slices.Equal(again, []string{"a", "b-1"}) || string(more) != "clock 1 4 5 5\na 9 5\nb-1 7 2\n" {
		t.Errorf("%q, %q", again, more)
	}
	holds(t, c, "clock 1 4 5 5", "a 9 5", "b-1 7 2")
	// what is told later doesn't show in them
	hears(t, c, "c", 8, 6, true, "clock 1 4 6 5", "a 9 5", "b-1 7 2", "c 8 6")
	if !slices.Equal(again, []string{"a", "b-1"}) || string(more) != "clock 1 4 5 5\na 9 5\nb-1 7 2\n" {
		t.Errorf("%q, %q", again, more)
	}
}

// R5: clocks that were decoded from the same bytes go on by themselves.
func TestDecodedGoOnByThemselves(t *testing.T) {
	b := []byte("clock 1 4 5 5\na 9 5\nb-1 7 2\n")
	c, _ := clock.Decode(b)
	d, _ := clock.Decode(b)
	hears(t, c, "b-1", 20, 6, true, "clock 1 4 6 7", "a 9 5", "b-1 20 6")
	holds(t, d, "clock 1 4 5 5", "a 9 5", "b-1 7 2")
	hears(t, d, "c", 6, 5, true, "clock 1 4 5 5", "a 9 5", "b-1 7 2", "c 6 5")
	holds(t, c, "clock 1 4 6 7", "a 9 5", "b-1 20 6")
}
