package frame_test

import (
	"bytes"
	"math/rand/v2"
	"slices"
	"testing"

	"cicerone/frame"
)

// tells holds All against the payloads, where they end, and how the bytes go on.
func tells(t *testing.T, b []byte, payloads [][]byte, end int, want frame.State) {
	t.Helper()
	got, n, s := frame.All(b)
	if !slices.EqualFunc(got, payloads, bytes.Equal) || n != end || s != want {
		t.Fatalf("All of %d bytes: %d payloads, not %d; %d, not %d; %d, not %d", len(b), len(got), len(payloads), n, end, s, want)
	}
}

// row is payloads of which a byte of the length, or a sum, is special, their frames one behind the other, and where each ends.
func row() ([][]byte, []byte, []int) {
	payloads := [][]byte{[]byte("one"), nil, frameOf(3, []byte("one")), drawn(256), nil, nil, {0}, drawn(700), []byte("last")}
	var b []byte
	var ends []int
	for _, p := range payloads {
		b = append(b, frameOf(len(p), p)...)
		ends = append(ends, len(b))
	}
	return payloads, b, ends
}

// P3.2.
func TestAllExamples(t *testing.T) {
	one, none := frameOf(3, []byte("one")), frameOf(0, nil)
	both := slices.Concat(one, none)
	two := [][]byte{[]byte("one"), nil}
	tells(t, nil, nil, 0, frame.Whole)
	tells(t, []byte{}, nil, 0, frame.Whole)
	tells(t, one, two[:1], 13, frame.Whole)
	tells(t, none, two[1:], 10, frame.Whole)
	tells(t, both, two, 23, frame.Whole)
	tells(t, slices.Concat(none, one), [][]byte{nil, []byte("one")}, 23, frame.Whole)
	tells(t, append(bytes.Clone(both), 0), two, 23, frame.Torn)
	tells(t, append(bytes.Clone(both), 255), two, 23, frame.Torn)
	tells(t, append(bytes.Clone(both), 1, 0, 0), two, 23, frame.Torn)
	tells(t, append(bytes.Clone(both), 1, 0, 1), two, 23, frame.Bad)
	tells(t, append(bytes.Clone(both), 0, 0, 0, 254), two, 23, frame.Bad)
	tells(t, []byte{0}, nil, 0, frame.Torn)
	tells(t, []byte{1, 0, 1}, nil, 0, frame.Bad)
	// what is whole behind something bad isn't told
	tells(t, slices.Concat([]byte{1, 0, 1}, both), nil, 0, frame.Bad)
	tells(t, slices.Concat(one, []byte{0, 0, 0, 0}, one), two[:1], 13, frame.Bad)
	tells(t, both[1:], nil, 0, frame.Bad)
}

// P3.2: of all lengths, one behind the other.
func TestAllSizes(t *testing.T) {
	var payloads [][]byte
	var b []byte
	for _, n := range sizes() {
		payloads = append(payloads, drawn(n))
		b = append(b, frameOf(n, drawn(n))...)
	}
	tells(t, b, payloads, len(b), frame.Whole)
	tells(t, append(b, frameOf(65537, make([]byte, 65537))...), payloads, len(b), frame.Bad)
	many := bytes.Repeat(frameOf(0, nil), 50000)
	tells(t, many, make([][]byte, 50000), len(many), frame.Whole)
}

// P3.3: cut anywhere.
func TestAllOfFramesThatAreCut(t *testing.T) {
	payloads, b, ends := row()
	for k := range len(b) + 1 {
		whole, end, want := 0, 0, frame.Torn
		for whole < len(ends) && ends[whole] <= k {
			end = ends[whole]
			whole++
		}
		if end == k {
			want = frame.Whole
		}
		tells(t, b[:k], payloads[:whole], end, want)
	}
}

// P3.3: a byte of any of them is another one: those ahead are told, and nothing else.
func TestAllOfFramesWithAnotherByte(t *testing.T) {
	payloads, b, ends := row()
	r := rand.New(rand.NewPCG(5, 6))
	for k := range b {
		ahead := 0
		for ends[ahead] <= k {
			ahead++
		}
		end := 0
		if ahead > 0 {
			end = ends[ahead-1]
		}
		more := byte(1 + r.IntN(255))
		b[k] += more
		tells(t, b, payloads[:ahead], end, frame.Bad)
		tells(t, b[:ends[ahead]], payloads[:ahead], end, frame.Bad)
		b[k] -= more
	}
	tells(t, b, payloads, len(b), frame.Whole)
}

// P3.2: as Open tells, one behind the other, of any bytes.
func TestAllAnyBytes(t *testing.T) {
	r := rand.New(rand.NewPCG(7, 8))
	met := map[frame.State]int{}
	for range 20000 {
		var b []byte
		for range r.IntN(5) {
			n := r.IntN(20)
			b = append(b, frameOf(n, drawn(n))...)
		}
		switch r.IntN(4) {
		case 0:
			b = b[:r.IntN(len(b)+1)]
		case 1:
			b = append(b, drawn(r.IntN(12))...)
		case 2:
			if len(b) > 0 {
				b[r.IntN(len(b))] += byte(1 + r.IntN(255))
			}
		}
		var payloads [][]byte
		end, want := 0, frame.Whole
		for end < len(b) && want == frame.Whole {
			size := 0
			size, want = goesOn(b[end:])
			if want == frame.Whole {
				payloads = append(payloads, b[end+6:end+size-4])
			}
			end += size
		}
		met[want]++
		tells(t, b, payloads, end, want)
	}
	if met[frame.Whole] < 1000 || met[frame.Torn] < 1000 || met[frame.Bad] < 1000 {
		t.Error(met)
	}
}

// P3.4.
func TestAllLeavesItsBytesAlone(t *testing.T) {
	payloads, b, ends := row()
	room := append(bytes.Clone(b), drawn(40)...)
	was := bytes.Clone(room)
	for _, upTo := range []int{len(b), len(b) - 1, ends[3], len(room)} {
		_, _, _ = frame.All(room[:upTo])
		if !bytes.Equal(room, was) {
			t.Fatal("changed, or its spare room")
		}
	}
	got, _, _ := frame.All(room[:len(b)])
	clear(room)
	if !slices.EqualFunc(got, payloads, bytes.Equal) {
		t.Fatal("the payloads change with the frames")
	}
	copy(room, was)
	for i := range got {
		clear(got[i])
		_ = append(got[i], "more than was there"...)
		got[i] = nil
	}
	if !bytes.Equal(room, was) {
		t.Fatal("the frames change with the payloads")
	}
	tells(t, room[:len(b)], payloads, len(b), frame.Whole)
}

// P3.4: no payload shares memory with another one.
func TestAllsPayloadsAreApart(t *testing.T) {
	payloads, b, _ := row()
	for i := range payloads {
		got, _, _ := frame.All(b)
		clear(got[i])
		got[i] = append(got[i], "more than was there, a good deal more"...)
		for k := range payloads {
			if k != i && !bytes.Equal(got[k], payloads[k]) {
				t.Fatalf("payload %d changes with payload %d", k, i)
			}
		}
	}
}
