package dedupe_test

import (
	"slices"
	"testing"

	"cicerone/api"
	"cicerone/dedupe"
)

// R4: the bytes that are handed in are neither changed nor kept, their spare room neither.
func TestHandedIn(t *testing.T) {
	b := bytesOf(t, "a 1-3 5-6", "b-1 7-8")
	room := slices.Concat(b, []byte("spare room"))
	was := slices.Clone(room)
	s, err := dedupe.Decode(room[:len(b)])
	if err != api.OK || !slices.Equal(room, was) {
		t.Fatalf("%d, %x", err, room)
	}
	for i := range room {
		room[i] = 'x'
	}
	holds(t, s, "a 1-3 5-6", "b-1 7-8")
	puts(t, s, "a", 3, true, "a 1-4 5-6", "b-1 7-8")
	puts(t, s, "c", 1, true, "a 1-4 5-6", "b-1 7-8", "c 1-2")
	for _, c := range room {
		if c != 'x' {
			t.Fatalf("%x", room)
		}
	}
	// bytes that are no set's
	room = slices.Clone(was)
	if _, err := dedupe.Decode(room[:len(b)-1]); err != api.ErrTorn || !slices.Equal(room, was) {
		t.Errorf("%d, %x", err, room)
	}
	if _, err := dedupe.Decode(room[:len(b)+1]); err != api.ErrForm || !slices.Equal(room, was) {
		t.Errorf("%d, %x", err, room)
	}
}

// R4: what is answered is new memory, and shares none with what is answered later.
func TestAnswers(t *testing.T) {
	s := dedupe.New()
	for _, n := range []int{1, 2, 5, 9} {
		s.Put("a", n)
	}
	s.Put("b-1", 7)
	lines := []string{"a 1-3 5-6 9-10", "b-1 7-8"}
	ranges, names, b := s.Ranges("a"), s.Sources(), s.Encode()
	again, namesAgain, more := s.Ranges("a"), s.Sources(), s.Encode()
	// what is told later doesn't show in them
	s.Put("a", 3)
	s.Put("a", 4)
	s.Put("a", 20)
	s.Put("0", 6)
	if !slices.Equal(again, []dedupe.Range{{1, 3}, {5, 6}, {9, 10}}) || !slices.Equal(namesAgain, []string{"a", "b-1"}) || string(more) != string(bytesOf(t, lines...)) {
		t.Errorf("%v, %q, %x", again, namesAgain, more)
	}
	// nor what is written into them in what is told later
	for i := range ranges {
		ranges[i] = dedupe.Range{From: 3, To: 4}
	}
	for i := range names {
		names[i] = "x"
	}
	for i := range b {
		b[i] = 'x'
	}
	for range 100 {
		ranges = append(ranges, dedupe.Range{From: 3, To: 4})
		names = append(names, "y")
		b = append(b, 'y')
	}
	holds(t, s, "0 6-7", "a 1-6 9-10 20-21", "b-1 7-8")
	if !slices.Equal(again, []dedupe.Range{{1, 3}, {5, 6}, {9, 10}}) || !slices.Equal(namesAgain, []string{"a", "b-1"}) || string(more) != string(bytesOf(t, lines...)) {
		t.Errorf("%v, %q, %x", again, namesAgain, more)
	}
}

// R5: sets that were decoded from the same bytes go on by themselves.
func TestDecodedGoOnByThemselves(t *testing.T) {
	b := bytesOf(t, "a 1-3 5-6", "b 7-8")
	s, _ := dedupe.Decode(b)
	o, _ := dedupe.Decode(b)
	puts(t, s, "a", 4, true, "a 1-3 4-6", "b 7-8")
	puts(t, s, "a", 3, true, "a 1-6", "b 7-8")
	holds(t, o, "a 1-3 5-6", "b 7-8")
	puts(t, o, "b", 6, true, "a 1-3 5-6", "b 6-8")
	holds(t, s, "a 1-6", "b 7-8")
}

// R5: ranges can be compared, and have just these fields in this order.
func TestRange(t *testing.T) {
	r := dedupe.Range{1, 3}
	if r.From != 1 || r.To != 3 || r != (dedupe.Range{From: 1, To: 3}) || r == (dedupe.Range{From: 1, To: 4}) {
		t.Error(r)
	}
}
