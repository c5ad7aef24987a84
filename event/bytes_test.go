package event_test

import (
	"bytes"
	"math"
	"math/rand/v2"
	"slices"
	"strings"
	"testing"

	"cicerone/api"
	"cicerone/event"
)

// mustEncode is the bytes of one that may be.
func mustEncode(t *testing.T, e event.Event) []byte {
	t.Helper()
	b, f := event.Encode(e)
	if f != api.OK {
		t.Fatalf("Encode(%+v): %d", e, f)
	}
	return b
}

// fails holds Decode against an error, beside which nothing may stand.
func fails(t *testing.T, b []byte, want api.Errno) {
	t.Helper()
	if e, n, f := event.Decode(b); e != (event.Event{}) || n != 0 || f != want {
		t.Errorf("Decode(%v): %+v, %d, %d, not %d", b, e, n, f, want)
	}
}

// join is the fields of an event's bytes, one behind the other.
func join(fields ...[]byte) []byte {
	return slices.Concat(fields...)
}

func text(s string) []byte {
	return append([]byte{byte(len(s))}, s...)
}

// P2.3.
func TestEncode(t *testing.T) {
	for _, x := range []struct {
		e    event.Event
		want []byte
	}{
		{event.Event{Source: "a", Number: 300, At: 5, Kind: event.Seen, Person: "p", Item: "q"}, []byte{0, 1, 'a', 172, 2, 5, 1, 'p', 1, 'q', 0, 0}},
		{event.Event{Source: "ab", Number: 1, Kind: event.Rated, Person: "p-0", Item: "q", Value: 5}, []byte{4, 2, 'a', 'b', 1, 0, 3, 'p', '-', '0', 1, 'q', 5, 0}},
		{event.Event{Source: "a", Number: 127, At: 128, Kind: event.Followed, Person: "p", Text: "m"}, []byte{7, 1, 'a', 127, 128, 1, 1, 'p', 0, 0, 1, 'm'}},
		{event.Event{Source: "a", Number: 16383, At: 16384, Kind: event.Listed, Item: "q", Value: 1 << 20, Text: "m;x,y"}, []byte{11, 1, 'a', 255, 127, 128, 128, 1, 0, 1, 'q', 128, 128, 64, 5, 'm', ';', 'x', ',', 'y'}},
		{event.Event{Source: "a", Number: 1<<35 - 1, At: 1 << 35, Kind: event.Delisted, Item: "q"}, []byte{13, 1, 'a', 255, 255, 255, 255, 127, 128, 128, 128, 128, 128, 1, 0, 1, 'q', 0, 0}},
		{event.Event{Source: "a", Number: 1 << 40, At: 1 << 40, Kind: event.Forgotten, Person: "p"}, []byte{14, 1, 'a', 128, 128, 128, 128, 128, 32, 128, 128, 128, 128, 128, 32, 1, 'p', 0, 0, 0}},
	} {
		if got, f := event.Encode(x.e); f != api.OK || !bytes.Equal(got, x.want) {
			t.Errorf("Encode(%+v): %v, %d", x.e, got, f)
		}
		if got, n, f := event.Decode(x.want); got != x.e || n != len(x.want) || f != api.OK {
			t.Errorf("Decode(%v): %+v, %d, %d", x.want, got, n, f)
		}
	}
}

// P2.3: as few groups as can be, from one to six.
func TestEncodeNumbers(t *testing.T) {
	ends := []int{0, 1 << 7, 1 << 14, 1 << 21, 1 << 28, 1 << 35, api.MaxTime + 1}
	for groups, least := range ends[:6] {
		for _, at := range []int{least, least + 1, ends[groups+1] - 1} {
			e := event.Event{Source: "a", Number: 1, At: at, Kind: event.Forgotten, Person: "p"}
			b := mustEncode(t, e)
			if got := len(b) - len("\x0e\x01a\x01"+"\x01p\x00\x00\x00"); got != groups+1 {
				t.Errorf("%d: %d groups", at, got)
			}
			if got, n, f := event.Decode(b); got != e || n != len(b) || f != api.OK {
				t.Error(at, got, n, f)
			}
		}
	}
}

// P2.3: the longest text has its length in its byte.
func TestEncodeTheLongestText(t *testing.T) {
	e := event.Event{Source: longest, Number: 1, Kind: event.Listed, Item: longest, Text: longest + ";" + strings.Join(longTags(8), ",")}
	b := mustEncode(t, e)
	if len(e.Text) != 224 || !bytes.HasSuffix(b, append([]byte{224}, e.Text...)) {
		t.Error(len(e.Text), b)
	}
	if got, n, f := event.Decode(b); got != e || n != len(b) || f != api.OK {
		t.Error(got, n, f)
	}
}

// P2.3: wrong ones.
func TestEncodeWrong(t *testing.T) {
	good := event.Event{Source: "a", Number: 1, Kind: event.Seen, Person: "p", Item: "q"}
	wrong := []event.Event{{}, good, good, good, good, good, good, good, good, good}
	wrong[1].Source = ""
	wrong[2].Number = 0
	wrong[3].Number = api.MaxNumber + 1
	wrong[4].At = -1
	wrong[5].Kind = 15
	wrong[6].Kind = 256
	wrong[7].Person = strings.Repeat("p", 257)
	wrong[8].Value = math.MinInt
	wrong[9].Text = "m"
	for _, e := range wrong {
		if b, f := event.Encode(e); len(b) != 0 || f != api.ErrArg {
			t.Errorf("Encode(%+v): %v, %d", e, b, f)
		}
	}
}

// P2.3: bytes that end in the midst of each field, or ahead of it.
func TestDecodeTorn(t *testing.T) {
	fails(t, nil, api.ErrTorn)
	for _, e := range append(ofKind(), atEdges()...) {
		b := mustEncode(t, e)
		for i := range b {
			fails(t, b[:i], api.ErrTorn)
		}
	}
}

// P2.3: numbers that are too long, or longer than need be, in each of the three places.
func TestDecodeNumbers(t *testing.T) {
	for _, x := range []struct {
		number []byte
		want   api.Errno
	}{
		{[]byte{0}, api.OK},
		{[]byte{127}, api.OK},
		{[]byte{128, 1}, api.OK},
		{[]byte{255, 127}, api.OK},
		{[]byte{128, 128, 1}, api.OK},
		{[]byte{128, 0}, api.ErrForm},
		{[]byte{129, 0}, api.ErrForm},
		{[]byte{255, 128, 0}, api.ErrForm},
		{[]byte{128, 128, 128, 0}, api.ErrForm},
		{[]byte{128, 128, 128, 128, 0}, api.ErrForm},
		{[]byte{255, 255, 255, 255, 255, 0}, api.ErrForm},
		{[]byte{128, 128, 128, 128, 128, 128}, api.ErrForm},
		{[]byte{255, 255, 255, 255, 255, 255}, api.ErrForm},
		{[]byte{128, 128, 128, 128, 128, 128, 0}, api.ErrForm},
		{[]byte{128, 128, 128, 128, 128, 128, 1}, api.ErrForm},
		// no event may have it
		{[]byte{129, 128, 128, 128, 128, 32}, api.ErrForm},
		{[]byte{128, 128, 128, 128, 128, 33}, api.ErrForm},
		{[]byte{255, 255, 255, 255, 255, 127}, api.ErrForm},
	} {
		at := join([]byte{12}, text("a"), []byte{1}, x.number, text(""), text("q"), []byte{0}, text(""))
		value := join([]byte{12}, text("a"), []byte{1}, []byte{0}, text(""), text("q"), x.number, text(""))
		number := join([]byte{12}, text("a"), x.number, []byte{0}, text(""), text("q"), []byte{0}, text(""))
		if x.want != api.OK {
			fails(t, at, x.want)
			fails(t, value, x.want)
			fails(t, number, x.want)
			continue
		}
		if e, n, f := event.Decode(at); f != api.OK || n != len(at) || !bytes.Equal(mustEncode(t, e), at) {
			t.Error(x.number, e, n, f)
		}
		if e, n, f := event.Decode(value); f != api.OK || n != len(value) || !bytes.Equal(mustEncode(t, e), value) {
			t.Error(x.number, e, n, f)
		}
	}
}

// P2.3: the numbers' ends.
func TestDecodeNumbersAtTheirEnds(t *testing.T) {
	most := []byte{128, 128, 128, 128, 128, 32}
	mostValue := []byte{128, 128, 64}
	b := join([]byte{12}, text("a"), most, most, text(""), text("q"), mostValue, text(""))
	want := event.Event{Source: "a", Number: 1 << 40, At: 1 << 40, Kind: event.Stocked, Item: "q", Value: 1 << 20}
	if e, n, f := event.Decode(b); e != want || n != len(b) || f != api.OK {
		t.Error(e, n, f)
	}
	fails(t, join([]byte{12}, text("a"), []byte{0}, most, text(""), text("q"), mostValue, text("")), api.ErrForm)
	fails(t, join([]byte{12}, text("a"), most, most, text(""), text("q"), []byte{129, 128, 64}, text("")), api.ErrForm)
	fails(t, join([]byte{4}, text("a"), most, most, text("p"), text("q"), []byte{0}, text("")), api.ErrForm)
	fails(t, join([]byte{4}, text("a"), most, most, text("p"), text("q"), []byte{6}, text("")), api.ErrForm)
}

// P2.3: of the errors that come when all fields are read, each one.
func TestDecodeFormOfTheWhole(t *testing.T) {
	one := []byte{1}
	none := []byte{0}
	for k := range 256 {
		b := join([]byte{byte(k)}, text("a"), one, none, text("p"), text("q"), none, text(""))
		if k < 4 || k == 5 || k == 6 {
			if e, n, f := event.Decode(b); int(e.Kind) != k || n != len(b) || f != api.OK {
				t.Error(k, e, n, f)
			}
			continue
		}
		fails(t, b, api.ErrForm)
		fails(t, append(b, 0, 0, 0), api.ErrForm)
		fails(t, b[:len(b)-1], api.ErrTorn)
	}
	for _, s := range []string{"", "A", strings.Repeat("a", 25), strings.Repeat("a", 128), strings.Repeat("a", 225), strings.Repeat("a", 255)} {
		fails(t, join(none, text(s), one, none, text("p"), text("q"), none, text("")), api.ErrForm)
		fails(t, join(none, text("a"), one, none, text(s), text("q"), none, text("")), api.ErrForm)
		fails(t, join(none, text("a"), one, none, text("p"), text(s), none, text("")), api.ErrForm)
		fails(t, join([]byte{7}, text("a"), one, none, text("p"), text(""), none, text(s)), api.ErrForm)
		fails(t, join([]byte{11}, text("a"), one, none, text(""), text("q"), none, text(s)), api.ErrForm)
	}
}

// P2.3: what is wrong first is told, from the first byte on; what makes it one that may not be only behind all that.
func TestDecodeTellsWhatIsFirst(t *testing.T) {
	long := []byte{255, 255, 255, 255, 255, 255}
	for _, x := range []struct {
		b    []byte
		want api.Errno
	}{
		// a wrong number ahead of where the bytes end
		{[]byte{0, 1, 'a', 128, 0}, api.ErrForm},
		{join([]byte{0, 1, 'a'}, long), api.ErrForm},
		{[]byte{0, 1, 'a', 1, 129, 0}, api.ErrForm},
		{[]byte{0, 1, 'a', 1, 0, 1, 'p', 1, 'q', 128, 0}, api.ErrForm},
		{[]byte{0, 1, 'a', 128, 0, 1, 128}, api.ErrForm},
		// the bytes end ahead of what would be wrong
		{[]byte{0, 1, 'a', 128}, api.ErrTorn},
		{join([]byte{0, 1, 'a'}, long[:5]), api.ErrTorn},
		{[]byte{0, 9, 'a', 128, 0}, api.ErrTorn},
		{[]byte{0, 255, 'a', 128, 0, 1, 'p', 1, 'q', 0, 0}, api.ErrTorn},
		// a kind, a text, a number that may not be, and the bytes end
		{[]byte{15}, api.ErrTorn},
		{[]byte{255, 1, 'a', 1, 0}, api.ErrTorn},
		{[]byte{0, 1, 'A', 1, 0, 1, 'p', 1, 'q', 0}, api.ErrTorn},
		{[]byte{0, 0, 1, 0, 1, 'p', 1, 'q', 0, 2, 'm'}, api.ErrTorn},
		{[]byte{0, 1, 'a', 0, 0, 1, 'p', 1, 'q', 0}, api.ErrTorn},
		{join([]byte{0, 1, 'a'}, []byte{255, 255, 255, 255, 255, 127}, []byte{0}), api.ErrTorn},
		{join([]byte{0, 1, 'a', 1, 0, 225}, bytes.Repeat([]byte{'p'}, 225)), api.ErrTorn},
		{join([]byte{0, 1, 'a', 1, 0, 225}, bytes.Repeat([]byte{'p'}, 224)), api.ErrTorn},
		// one that may not be, and then a wrong number
		{[]byte{15, 1, 'A', 1, 128, 0}, api.ErrForm},
	} {
		fails(t, x.b, x.want)
	}
}

// P2.3, P2.6: it counts what it takes, and doesn't look at what stands behind.
func TestDecodeWithOthersBehind(t *testing.T) {
	l := append(ofKind(), atEdges()...)
	var all []byte
	for _, e := range l {
		all = append(all, mustEncode(t, e)...)
	}
	all = append(all, 255, 255, 255)
	for _, want := range l {
		e, n, f := event.Decode(all)
		if e != want || n != len(mustEncode(t, want)) || f != api.OK {
			t.Fatalf("%+v: %+v, %d, %d", want, e, n, f)
		}
		all = all[n:]
	}
	if !bytes.Equal(all, []byte{255, 255, 255}) {
		t.Error(all)
	}
}

// What is handed in is neither changed nor kept; what is answered is new memory.
func TestBytesAreNotShared(t *testing.T) {
	e := event.Event{Source: "source", Number: 300, At: 5, Kind: event.Listed, Item: "item", Value: 7, Text: "maker;x,y"}
	room := append(mustEncode(t, e), 1, 2, 3)
	was := bytes.Clone(room)
	got, _, _ := event.Decode(room[:len(room)-3])
	if !bytes.Equal(room, was) {
		t.Error(room)
	}
	for i := range room {
		room[i] = 'z'
	}
	if got != e {
		t.Error(got)
	}
	first := mustEncode(t, e)
	for i := range first {
		first[i] = 'z'
	}
	if !bytes.Equal(mustEncode(t, e), was[:len(was)-3]) {
		t.Error("bytes of an answer are those of another one")
	}
}

// P2.6: what is encoded is decoded, whatever stands behind.
func TestEncodedIsDecoded(t *testing.T) {
	r := rand.New(rand.NewPCG(1, 2))
	l := append(ofKind(), atEdges()...)
	for range 3000 {
		l = append(l, drawn(r))
	}
	for _, e := range l {
		b := mustEncode(t, e)
		for _, behind := range [][]byte{nil, {0}, {255}, {128, 128}, []byte("behind"), b} {
			if got, n, f := event.Decode(join(b, behind)); got != e || n != len(b) || f != api.OK {
				t.Fatalf("%+v: %+v, %d, %d", e, got, n, f)
			}
		}
	}
}

// P2.6: what is decoded is encoded as it was.
func TestDecodedIsEncodedAsItWas(t *testing.T) {
	r := rand.New(rand.NewPCG(3, 4))
	told, refused := 0, 0
	for range 100000 {
		b := mustEncode(t, drawn(r))
		for range 1 + r.IntN(3) {
			b[r.IntN(len(b))] = byte(r.IntN(256) >> r.IntN(8))
		}
		b = b[:len(b)-r.IntN(2)*r.IntN(len(b))]
		e, n, f := event.Decode(b)
		if f != api.OK {
			refused++
			fails(t, b, f)
			continue
		}
		told++
		if !event.May(e) || n < 1 || n > len(b) || !bytes.Equal(mustEncode(t, e), b[:n]) {
			t.Fatalf("Decode(%v): %+v, %d", b, e, n)
		}
	}
	if told < 1000 || refused < 1000 {
		t.Errorf("%d were told, %d refused", told, refused)
	}
}

// drawn is an event that may be, of any kind.
func drawn(r *rand.Rand) event.Event {
	name := func() string {
		const signs = "abcdefghijklmnopqrstuvwxyz0123456789-"
		b := make([]byte, 1+r.IntN(24)>>r.IntN(5))
		for i := range b {
			b[i] = signs[r.IntN(len(signs))]
		}
		return string(b)
	}
	e := ofKind()[r.IntN(15)]
	e.Source, e.Number, e.At = name(), 1+r.IntN(1<<40)>>r.IntN(40), r.IntN(1<<40+1)>>r.IntN(41)
	if e.Person != "" {
		e.Person = name()
	}
	if e.Item != "" {
		e.Item = name()
	}
	switch e.Kind {
	case event.Rated:
		e.Value = 1 + r.IntN(5)
	case event.Stocked:
		e.Value = r.IntN(1<<20+1) >> r.IntN(21)
	case event.Listed:
		e.Value = r.IntN(1<<20+1) >> r.IntN(21)
		var tags []string
		for range r.IntN(9) {
			tags = append(tags, name())
		}
		slices.Sort(tags)
		e.Text = name() + ";" + strings.Join(slices.Compact(tags), ",")
	case event.Followed, event.Unfollowed, event.Muted, event.Unmuted:
		e.Text = name()
	}
	return e
}
