package event_test

import (
	"math/rand/v2"
	"strings"
	"testing"

	"cicerone/api"
	"cicerone/event"
)

// P2.4: a text of each kind, and at the ends.
func TestFormatAndParse(t *testing.T) {
	texts := []string{
		"s 1 0 seen p q 0 .",
		"s 2 0 opened p q 0 .",
		"s 3 0 finished p q 0 .",
		"s 4 0 bought p q 0 .",
		"s 5 0 rated p q 4 .",
		"s 6 0 hidden p q 0 .",
		"s 7 0 unhidden p q 0 .",
		"s 8 0 followed p . 0 m",
		"s 9 0 unfollowed p . 0 m",
		"s 10 0 muted p . 0 m",
		"s 11 0 unmuted p . 0 m",
		"s 12 0 listed . q 7 m;x,y",
		"s 13 0 stocked . q 300 .",
		"s 14 0 delisted . q 0 .",
		"s 15 0 forgotten p . 0 .",
	}
	l := ofKind()
	l = append(l, event.Event{Source: "a", Number: 300, At: 5, Kind: event.Seen, Person: "p", Item: "q"})
	texts = append(texts, "a 300 5 seen p q 0 .")
	l = append(l, event.Event{Source: longest, Number: 1 << 40, At: 1 << 40, Kind: event.Stocked, Item: "-", Value: 1 << 20})
	texts = append(texts, longest+" 1099511627776 1099511627776 stocked . - 1048576 .")
	l = append(l, event.Event{Source: "0", Number: 10, At: 100, Kind: event.Listed, Item: "00", Text: "000;"})
	texts = append(texts, "0 10 100 listed . 00 0 000;")
	for i, e := range l {
		if got := event.Format(e); got != texts[i] {
			t.Errorf("Format(%+v): %q", e, got)
		}
		if got, f := event.Parse(texts[i]); got != e || f != api.OK {
			t.Errorf("Parse(%q): %+v, %d", texts[i], got, f)
		}
	}
}

// P2.4: the empty text of one that may not be.
func TestFormatWrong(t *testing.T) {
	good := event.Event{Source: "a", Number: 1, Kind: event.Seen, Person: "p", Item: "q"}
	wrong := []event.Event{{}, good, good, good, good, good, good, good}
	wrong[1].Source = "a b"
	wrong[2].Number = 0
	wrong[3].At = api.MaxTime + 1
	wrong[4].Kind = -1
	wrong[5].Kind = 15
	wrong[6].Item = ""
	wrong[7].Value = 1
	for _, e := range wrong {
		if got := event.Format(e); got != "" {
			t.Errorf("Format(%+v): %q", e, got)
		}
	}
}

// P2.4: wrong texts.
func TestParseWrong(t *testing.T) {
	for _, s := range []string{
		"", " ", "       ", ".", "a", ". . . . . . . .",
		// one word less, one more
		"a 300 5 seen p q 0", "300 5 seen p q 0 .", "a 300 5 p q 0 .", "a 300 5 seen p q .",
		"a 300 5 seen p q 0 . .", "a a 300 5 seen p q 0 .", "a 300 5 seen p q 0 . a 300 5 seen p q 0 .",
		// blanks: two, at the ends, others
		"a  300 5 seen p q 0 .", "a 300 5 seen p q 0  .", "a 300 5 seen  p q 0 .", "a 300 5 seen p  0 .", "a 300 5 seen  q 0 .", " 300 5 seen p q 0 .", "a 300 5 seen p q 0 ",
		" a 300 5 seen p q 0 .", "a 300 5 seen p q 0 . ", "a\t300 5 seen p q 0 .", "a 300 5 seen p q 0 .\n", "a 300 5 seen p q 0\n.", "a 300 5 seen p\u00a0q 0 .",
		"a 8 0 followed p  0 m", "a 300 5 seen p q  .", "a  5 seen p q 0 .",
		// noughts ahead
		"a 0300 5 seen p q 0 .", "a 300 05 seen p q 0 .", "a 300 5 seen p q 00 .", "a 300 00 seen p q 0 .", "s 5 0 rated p q 04 .",
		// no numbers, or beyond their ends
		"a +300 5 seen p q 0 .", "a 300 +5 seen p q 0 .", "a 300 -0 seen p q 0 .", "a 300 5 seen p q -0 .", "a 300 5 seen p q +0 .", "a -300 5 seen p q 0 .", "a 300 -5 seen p q 0 .", "a 300 -1 seen p q 0 .", "a 300 5 seen p q -1 .",
		"a x 5 seen p q 0 .", "a 300 x seen p q 0 .", "a 300 5 seen p q x .", "a . 5 seen p q 0 .", "a 300 . seen p q 0 .", "a 300 5 seen p q . .",
		"a 3e2 5 seen p q 0 .", "a 0x3 5 seen p q 0 .", "a 3_00 5 seen p q 0 .", "a 300.0 5 seen p q 0 .", "a 300 ٥ seen p q 0 .",
		"a 0 5 seen p q 0 .", "a 1099511627777 5 seen p q 0 .", "a 300 1099511627777 seen p q 0 .", "s 13 0 stocked . q 1048577 .",
		"a 9223372036854775808 5 seen p q 0 .", "a 18446744073709551617 5 seen p q 0 .", "a 300 18446744073709551616 seen p q 0 .", "a 1 0 seen p q 18446744073709551616 .",
		"a 300 5 seen p q 1 .", "s 5 0 rated p q 0 .", "s 5 0 rated p q 6 .",
		// kinds
		"a 300 5 0 p q 0 .", "a 300 5 Seen p q 0 .", "a 300 5 SEEN p q 0 .", "a 300 5 see p q 0 .", "a 300 5 seenn p q 0 .", "a 300 5 . p q 0 .", "a 300 5 shown p q 0 .", "a 300 5 followed p q 0 .",
		// texts
		". 300 5 seen p q 0 .", "a 300 5 seen . q 0 .", "a 300 5 seen p . 0 .", "a 300 5 seen p q 0 m", "A 300 5 seen p q 0 .", "a 300 5 seen P q 0 .", "a 300 5 seen p q. 0 .",
		"a 300 5 seen p q 0 ..", "s 8 0 followed p . 0 .", "s 8 0 followed p . 0 m;", "s 8 0 followed p q 0 m", "s 12 0 listed . q 7 m", "s 12 0 listed . q 7 m;y,x", "s 12 0 listed p q 7 m;x", "s 12 0 listed . q 7 .",
		"s 15 0 forgotten p q 0 .", "s 15 0 forgotten . . 0 .",
		longest + "a 1 0 seen p q 0 .",
		// as a whole: one behind another one
		"a 300 5 seen p q 0 .a", "a 300 5 seen p q 0 .\x00",
	} {
		if e, f := event.Parse(s); e != (event.Event{}) || f != api.ErrForm {
			t.Errorf("Parse(%q): %+v, %d", s, e, f)
		}
	}
}

// P2.6: what is formatted is parsed.
func TestFormattedIsParsed(t *testing.T) {
	r := rand.New(rand.NewPCG(5, 6))
	l := append(ofKind(), atEdges()...)
	for range 3000 {
		l = append(l, drawn(r))
	}
	for _, e := range l {
		s := event.Format(e)
		if strings.Count(s, " ") != 7 {
			t.Fatalf("Format(%+v): %q", e, s)
		}
		if got, f := event.Parse(s); got != e || f != api.OK {
			t.Fatalf("Parse(%q): %+v, %d", s, got, f)
		}
	}
}

// P2.6: what is parsed is formatted as it was.
func TestParsedIsFormattedAsItWas(t *testing.T) {
	r := rand.New(rand.NewPCG(7, 8))
	const signs = "az09-. ;,+_AZ\x00\xff"
	told, refused := 0, 0
	for range 100000 {
		b := []byte(event.Format(drawn(r)))
		for range 1 + r.IntN(2) {
			b[r.IntN(len(b))] = signs[r.IntN(len(signs))]
		}
		s := string(b)
		e, f := event.Parse(s)
		if f != api.OK {
			refused++
			if f != api.ErrForm || e != (event.Event{}) {
				t.Fatalf("Parse(%q): %+v, %d", s, e, f)
			}
			continue
		}
		told++
		if !event.May(e) || event.Format(e) != s {
			t.Fatalf("Parse(%q): %+v", s, e)
		}
	}
	if told < 1000 || refused < 1000 {
		t.Errorf("%d were told, %d refused", told, refused)
	}
}
