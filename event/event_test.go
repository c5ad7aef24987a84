package event_test

import (
	"fmt"
	"math"
	"math/rand/v2"
	"slices"
	"strings"
	"testing"

	"cicerone/api"
	"cicerone/event"
)

type kind = event.Kind

// longest is a name of as many bytes as a name can have.
const longest = "abcdefghijklmnopqrstuv-9"

// ofKind is one event of each kind, each of whose fields that its row names is filled.
func ofKind() []event.Event {
	return []event.Event{
		{Source: "s", Number: 1, Kind: event.Seen, Person: "p", Item: "q"},
		{Source: "s", Number: 2, Kind: event.Opened, Person: "p", Item: "q"},
		{Source: "s", Number: 3, Kind: event.Finished, Person: "p", Item: "q"},
		{Source: "s", Number: 4, Kind: event.Bought, Person: "p", Item: "q"},
		{Source: "s", Number: 5, Kind: event.Rated, Person: "p", Item: "q", Value: 4},
		{Source: "s", Number: 6, Kind: event.Hidden, Person: "p", Item: "q"},
		{Source: "s", Number: 7, Kind: event.Unhidden, Person: "p", Item: "q"},
		{Source: "s", Number: 8, Kind: event.Followed, Person: "p", Text: "m"},
		{Source: "s", Number: 9, Kind: event.Unfollowed, Person: "p", Text: "m"},
		{Source: "s", Number: 10, Kind: event.Muted, Person: "p", Text: "m"},
		{Source: "s", Number: 11, Kind: event.Unmuted, Person: "p", Text: "m"},
		{Source: "s", Number: 12, Kind: event.Listed, Item: "q", Value: 7, Text: "m;x,y"},
		{Source: "s", Number: 13, Kind: event.Stocked, Item: "q", Value: 300},
		{Source: "s", Number: 14, Kind: event.Delisted, Item: "q"},
		{Source: "s", Number: 15, Kind: event.Forgotten, Person: "p"},
	}
}

// atEdges are events that may be, with their fields at the ends of what they can be.
func atEdges() []event.Event {
	var l []event.Event
	for _, e := range ofKind() {
		for _, n := range []int{1, 127, 128, 1<<14 - 1, 1 << 14, 1<<21 - 1, 1 << 21, 1<<28 - 1, 1 << 28, 1<<35 - 1, 1 << 35, api.MaxNumber - 1, api.MaxNumber} {
			e.Number, e.At = n, n
			l = append(l, e)
		}
		e.At = 0
		e.Source = longest
		if e.Person != "" {
			e.Person = longest
		}
		if e.Item != "" {
			e.Item = longest
		}
		l = append(l, e)
	}
	for _, n := range []int{1, 2, 3, 4, 5} {
		l = append(l, event.Event{Source: "s", Number: 1, Kind: event.Rated, Person: "p", Item: "q", Value: n})
	}
	for _, n := range []int{0, 1, 127, 128, 1<<14 - 1, 1 << 14, api.MaxValue - 1, api.MaxValue} {
		l = append(l, event.Event{Source: "s", Number: 1, Kind: event.Stocked, Item: "q", Value: n})
		l = append(l, event.Event{Source: "s", Number: 1, Kind: event.Listed, Item: "q", Value: n, Text: "m;"})
	}
	for n := range api.MaxTags + 1 {
		l = append(l, event.Event{Source: "s", Number: 1, Kind: event.Listed, Item: "q", Text: longest + ";" + strings.Join(longTags(n), ",")})
	}
	return append(l, event.Event{Source: "-", Number: 1, Kind: event.Muted, Person: "0", Text: longest})
}

// longTags are n names of 24 bytes, rising.
func longTags(n int) []string {
	l := make([]string, n)
	for i := range l {
		l[i] = fmt.Sprintf("%024d", i)
	}
	return l
}

// P2.1.
func TestNameByLength(t *testing.T) {
	for n := range 300 {
		if got := event.Name(strings.Repeat("a", n)); got != (n >= 1 && n <= 24) {
			t.Errorf("of %d bytes: %v", n, got)
		}
	}
	if !event.Name(longest) || event.Name(longest+"a") {
		t.Error("longest")
	}
}

// P2.1: each byte, wherever it stands.
func TestNameByBytes(t *testing.T) {
	const signs = "abcdefghijklmnopqrstuvwxyz0123456789-"
	for c := range 256 {
		sign := string([]byte{byte(c)})
		want := strings.Contains(signs, sign)
		for _, s := range []string{sign, sign + "a", "a" + sign, "a" + sign + "a", strings.Repeat("a", 23) + sign} {
			if event.Name(s) != want {
				t.Errorf("Name(%q): %v", s, !want)
			}
		}
	}
	for _, s := range []string{"é", "ａ", "a b", "a\x00", "a\n", "a_b", "a;b", "."} {
		if event.Name(s) {
			t.Errorf("Name(%q)", s)
		}
	}
}

// P2.1: those that may be.
func TestMay(t *testing.T) {
	for _, e := range append(ofKind(), atEdges()...) {
		if !event.May(e) {
			t.Errorf("May(%+v): false", e)
		}
	}
}

// P2.1: a source, a number or a tick is wrong, of each kind.
func TestMayNotOfAnyKind(t *testing.T) {
	for _, good := range ofKind() {
		for _, s := range []string{"", "S", longest + "a", "a b", "."} {
			e := good
			e.Source = s
			if event.May(e) {
				t.Errorf("May(%+v)", e)
			}
		}
		for _, n := range []int{math.MinInt, -1, 0, api.MaxNumber + 1, math.MaxInt} {
			e := good
			e.Number = n
			if event.May(e) {
				t.Errorf("May(%+v)", e)
			}
		}
		for _, n := range []int{math.MinInt, -1, api.MaxTime + 1, math.MaxInt} {
			e := good
			e.At = n
			if event.May(e) {
				t.Errorf("May(%+v)", e)
			}
		}
	}
	if event.May(event.Event{}) {
		t.Error("the zero event")
	}
}

// P2.1: a kind without a row, whatever else is there.
func TestMayNotWithoutARow(t *testing.T) {
	for _, k := range []kind{math.MinInt, -15, -1, 15, 16, 256, 1 << 32, math.MaxInt} {
		for _, e := range append(ofKind(), event.Event{Source: "s", Number: 1}) {
			e.Kind = k
			if event.May(e) {
				t.Errorf("May(%+v)", e)
			}
		}
	}
}

// mayByRow is the chapter's table, for fields that are empty, a name, or no name.
func mayByRow(e event.Event) bool {
	person, item, text := e.Person == "p", e.Item == "q", e.Text == "m"
	noPerson, noItem, noText := e.Person == "", e.Item == "", e.Text == ""
	switch e.Kind {
	case 0, 1, 2, 3, 5, 6:
		return person && item && e.Value == 0 && noText
	case 4:
		return person && item && e.Value >= 1 && e.Value <= 5 && noText
	case 7, 8, 9, 10:
		return person && noItem && e.Value == 0 && text
	case 11:
		return noPerson && item && e.Value >= 0 && e.Value <= 1<<20 && (e.Text == "m;" || e.Text == "m;x")
	case 12:
		return noPerson && item && e.Value >= 0 && e.Value <= 1<<20 && noText
	case 13:
		return noPerson && item && e.Value == 0 && noText
	case 14:
		return person && noItem && e.Value == 0 && noText
	}
	return false
}

// P2.1: each kind's row, with each field in each way.
func TestMayByRows(t *testing.T) {
	for k := kind(-1); k <= 16; k++ {
		for _, person := range []string{"", "p", "P", longest + "a"} {
			for _, item := range []string{"", "q", "Q", longest + "a"} {
				for _, value := range []int{math.MinInt, -1, 0, 1, 5, 6, 1 << 20, 1<<20 + 1, math.MaxInt} {
					for _, text := range []string{"", "m", "m;", "m;x", "M", "M;", ";", longest + "a"} {
						e := event.Event{Source: "s", Number: 1, Kind: k, Person: person, Item: item, Value: value, Text: text}
						if got, want := event.May(e), mayByRow(e); got != want {
							t.Fatalf("May(%+v): %v", e, got)
						}
					}
				}
			}
		}
	}
}

// P2.1: a thing's maker and tags.
func TestMayOfTags(t *testing.T) {
	for _, x := range []struct {
		text string
		want bool
	}{
		{"m;", true}, {"m;x", true}, {"m;x,y", true}, {"m;-,0,9,a,z", true}, {"m;a,aa,ab,b", true}, {"m;m", true},
		{"m;1,2,3,4,5,6,7,8", true}, {"m;1,2,3,4,5,6,7,8,9", false},
		{"m;" + strings.Join(longTags(8), ","), true}, {"m;" + strings.Join(longTags(9), ","), false},
		{longest + ";" + longest, true}, {longest + "a;", false}, {"m;" + longest + "a", false},
		// falling, and twice
		{"m;y,x", false}, {"m;x,x", false}, {"m;aa,a", false}, {"m;a,c,b", false}, {"m;a,b,a", false}, {"m;a,-", false}, {"m;a,b,b", false},
		// a sign that is wrong, one more, one less
		{"", false}, {"m", false}, {";", false}, {";x", false}, {"m;,", false}, {"m;,x", false}, {"m;x,", false}, {"m;x,,y", false},
		{"m;;", false}, {"m;x;y", false}, {"m;;x", false}, {"m,x", false}, {"m,x;y", false}, {"m;X", false}, {"M;x", false}, {"m; x", false}, {"m;x, y", false}, {"m ;x", false},
	} {
		e := event.Event{Source: "s", Number: 1, Kind: event.Listed, Item: "q", Text: x.text}
		if got := event.May(e); got != x.want {
			t.Errorf("of %q: %v", x.text, got)
		}
	}
}

// inOrder are places in the order, each one behind the one ahead.
func inOrder() []event.Event {
	var l []event.Event
	for _, at := range []int{math.MinInt, -1, 0, 5, api.MaxTime, math.MaxInt} {
		for _, source := range []string{"", "-", "A", "a", "a-", "aa", "b", "é", "\xff"} {
			for _, number := range []int{math.MinInt, -1, 0, 1, 2, 10, math.MaxInt} {
				l = append(l, event.Event{Source: source, Number: number, At: at})
			}
		}
	}
	return l
}

// P2.2.
func TestCompare(t *testing.T) {
	l := inOrder()
	for i, a := range l {
		for k, b := range l {
			want := 0
			if i < k {
				want = -1
			} else if i > k {
				want = 1
			}
			// nothing else counts
			b.Kind, b.Person, b.Item, b.Value, b.Text = kind(k-40), "z", "z", -k, "z"
			if got := event.Compare(a, b); got != want {
				t.Fatalf("Compare(%+v, %+v): %d", a, b, got)
			}
			a, b = b, a
			if got := event.Compare(a, b); got != -want {
				t.Fatalf("Compare(%+v, %+v): %d", a, b, got)
			}
			a, b = b, a
		}
	}
}

// P2.2.
func TestSame(t *testing.T) {
	a := event.Event{Source: "a", Number: 7, At: 5, Kind: event.Rated, Person: "p", Item: "q", Value: 4, Text: "m"}
	if !event.Same(a, a) || !event.Same(a, event.Event{Source: "a", Number: 7}) || !event.Same(event.Event{}, event.Event{At: 9}) {
		t.Error("one identity")
	}
	b, c, d := a, a, a
	b.Source, c.Number, d.Source = "b", 8, "A"
	for _, other := range []event.Event{b, c, d, {}} {
		if event.Same(a, other) || event.Same(other, a) {
			t.Errorf("%+v", other)
		}
	}
}

// P2.2.
func TestSort(t *testing.T) {
	want := inOrder()
	r := rand.New(rand.NewPCG(1, 2))
	for range 20 {
		l := slices.Clone(want)
		r.Shuffle(len(l), func(i, k int) { l[i], l[k] = l[k], l[i] })
		if got := event.Sort(l...); !slices.Equal(got, want) {
			t.Fatal(got)
		}
	}
	if got := event.Sort(); len(got) != 0 {
		t.Error(got)
	}
	if got := event.Sort([]event.Event{}...); len(got) != 0 {
		t.Error(got)
	}
}

// P2.2: those at one place as they stood, none left out, even if one stands there twice.
func TestSortLeavesOnePlaceAsItStood(t *testing.T) {
	r := rand.New(rand.NewPCG(3, 4))
	for range 200 {
		l := make([]event.Event, r.IntN(200))
		for i := range l {
			l[i] = event.Event{Source: []string{"a", "b"}[r.IntN(2)], Number: r.IntN(3), At: r.IntN(3), Kind: kind(r.IntN(3)), Value: i / 2}
		}
		got := event.Sort(l...)
		var want []event.Event
		for at := range 3 {
			for _, source := range []string{"a", "b"} {
				for number := range 3 {
					for _, e := range l {
						if e.At == at && e.Source == source && e.Number == number {
							want = append(want, e)
						}
					}
				}
			}
		}
		if !slices.Equal(got, want) {
			t.Fatal(l, got)
		}
	}
}

// P2.2: in new memory; what is handed in isn't changed, its spare room neither.
func TestSortLeavesItsListAlone(t *testing.T) {
	room := []event.Event{{At: 3}, {At: 2}, {At: 1}, {At: 9}, {At: 8}}
	was := slices.Clone(room)
	got := event.Sort(room[:3]...)
	if !slices.Equal(room, was) {
		t.Error(room)
	}
	_ = append(got, event.Event{At: 7})
	for i := range got {
		got[i].At = 70
	}
	if !slices.Equal(room, was) {
		t.Error(room)
	}
	sorted := event.Sort(room[2:3]...)
	sorted[0].At = 70
	if !slices.Equal(room, was) {
		t.Error(room)
	}
}

// P2.5: by kind and value alone.
func TestWorth(t *testing.T) {
	for k := kind(-2); k <= 17; k++ {
		for _, value := range []int{math.MinInt, -1, 0, 1, 4, 5, 6, math.MaxInt} {
			want := map[kind]int{event.Opened: 1, event.Finished: 3, event.Bought: 5, event.Rated: value}[k]
			bare := event.Event{Kind: k, Value: value}
			full := event.Event{Source: "s", Number: 1, At: 9, Kind: k, Person: "p", Item: "q", Value: value, Text: "m"}
			if event.Worth(bare) != want || event.Worth(full) != want {
				t.Errorf("kind %d, value %d: %d, %d", k, value, event.Worth(bare), event.Worth(full))
			}
		}
	}
}

// P2.5.
func TestMakerAndTags(t *testing.T) {
	for _, x := range []struct {
		text, maker string
		tags        []string
	}{
		{"", "", nil},
		{"m", "m", nil},
		{"m;", "m", nil},
		{"m;x", "m", []string{"x"}},
		{"m;x,y", "m", []string{"x", "y"}},
		{"m;y,x,x", "m", []string{"y", "x", "x"}},
		{"m;1,2,3,4,5,6,7,8,9,10", "m", []string{"1", "2", "3", "4", "5", "6", "7", "8", "9", "10"}},
		// any texts
		{";", "", nil},
		{";x", "", []string{"x"}},
		{"m,n", "m,n", nil},
		{"m,n;x", "m,n", []string{"x"}},
		{"m;,", "m", []string{"", ""}},
		{"m;,,", "m", []string{"", "", ""}},
		{"m;x,", "m", []string{"x", ""}},
		{"m;;", "m", []string{";"}},
		{"m;x;y,z", "m", []string{"x;y", "z"}},
		{"M é;\xff, \x00", "M é", []string{"\xff", " \x00"}},
	} {
		if got := event.Maker(x.text); got != x.maker {
			t.Errorf("Maker(%q): %q", x.text, got)
		}
		if got := event.Tags(x.text); !slices.Equal(got, x.tags) {
			t.Errorf("Tags(%q): %q", x.text, got)
		}
	}
}
