package frame_test

import (
	"bytes"
	"math/rand/v2"
	"slices"
	"testing"

	"cicerone/frame"
)

// goesOn is how b goes on, condition by condition as they are told, and how long the whole frame is.
func goesOn(b []byte) (int, frame.State) {
	there := len(b)
	if there >= 4 && int(b[3]) != 255-int(b[0]) {
		return 0, frame.Bad
	}
	if there >= 5 && int(b[4]) != 255-int(b[1]) {
		return 0, frame.Bad
	}
	if there >= 6 && int(b[5]) != 255-int(b[2]) {
		return 0, frame.Bad
	}
	if there < 3 {
		return 0, frame.Torn
	}
	n := int(b[0])*65536 + int(b[1])*256 + int(b[2])
	if n > 65536 {
		return 0, frame.Bad
	}
	if there < n+10 {
		return 0, frame.Torn
	}
	if !bytes.Equal(b[n+6:n+10], sumOf(b[:n+6])) {
		return 0, frame.Bad
	}
	return n + 10, frame.Whole
}

// opens holds Open against a payload that is there as a whole.
func opens(t *testing.T, b, payload []byte) {
	t.Helper()
	if p, n, s := frame.Open(b); !bytes.Equal(p, payload) || n != len(payload)+10 || s != frame.Whole {
		t.Errorf("Open of %d bytes: %d of a payload, not %d; %d, %d", len(b), len(p), len(payload), n, s)
	}
}

// opensNot holds Open against Torn or Bad, beside which nothing may stand.
func opensNot(t *testing.T, b []byte, want frame.State) {
	t.Helper()
	if p, n, s := frame.Open(b); p != nil || n != 0 || s != want {
		t.Errorf("Open(%x ..), %d bytes: %d of a payload, %d, %d, not %d", b[:min(len(b), 12)], len(b), len(p), n, s, want)
	}
}

// P3.1: three states, and no two alike.
func TestStates(t *testing.T) {
	if frame.Whole != 0 || frame.Torn != 1 || frame.Bad != 2 {
		t.Error(frame.Whole, frame.Torn, frame.Bad)
	}
}

// P3.1: whatever stands behind the frame.
func TestOpenWhole(t *testing.T) {
	for _, n := range sizes() {
		payload := drawn(n)
		b := frameOf(n, payload)
		for _, behind := range [][]byte{nil, {0}, {255}, {0, 0, 0, 0}, b, drawn(70000)} {
			opens(t, slices.Concat(b, behind), payload)
		}
	}
}

// P3.1: a frame in a frame's payload.
func TestOpenOfAFrameInAFrame(t *testing.T) {
	inner := mustSeal(t, []byte("inner"))
	opens(t, mustSeal(t, inner), inner)
}

// P3.1: the head's edges, as far as it is there.
func TestOpenHeads(t *testing.T) {
	for _, x := range []struct {
		b    string
		want frame.State
	}{
		{"", frame.Torn},
		{"\x00", frame.Torn}, {"\x01", frame.Torn}, {"\xff", frame.Torn},
		{"\x00\x00", frame.Torn}, {"\x01\x00", frame.Torn}, {"\x01\x01", frame.Torn}, {"\xff\xff", frame.Torn},
		{"\x00\x00\x00", frame.Torn}, {"\x00\xff\xff", frame.Torn}, {"\x01\x00\x00", frame.Torn},
		{"\x01\x00\x01", frame.Bad}, {"\x01\x01\x00", frame.Bad}, {"\x02\x00\x00", frame.Bad}, {"\x80\x00\x00", frame.Bad}, {"\xff\xff\xff", frame.Bad},
		// the second three, each alone wrong
		{"\x00\x00\x00\xff", frame.Torn}, {"\x00\x00\x00\xfe", frame.Bad}, {"\x00\x00\x00\x00", frame.Bad}, {"\x01\x00\x00\xfe", frame.Torn}, {"\x01\x00\x00\xff", frame.Bad},
		{"\x00\x05\x00\xff\xfa", frame.Torn}, {"\x00\x05\x00\xff\xff", frame.Bad}, {"\x00\x05\x00\xff\x05", frame.Bad}, {"\x00\x05\x00\xfe\xfa", frame.Bad},
		{"\x00\x05\x07\xff\xfa\xf8", frame.Torn}, {"\x00\x05\x07\xff\xfa\xf9", frame.Bad}, {"\x00\x05\x07\xff\xfb\xf8", frame.Bad}, {"\x00\x05\x07\xfe\xfa\xf8", frame.Bad},
		{"\x00\x05\x07\x00\x05\x07", frame.Bad}, {"\x00\x05\x07\xf8\xfa\xff", frame.Bad}, {"\x00\x00\x00\x00\x00\x00", frame.Bad},
		// too long, though the second three are right
		{"\x01\x00\x01\xfe", frame.Bad}, {"\x01\x00\x01\xfe\xff", frame.Bad}, {"\x01\x00\x01\xfe\xff\xfe", frame.Bad}, {"\xff\xff\xff\x00\x00\x00", frame.Bad},
		{"\x01\x00\x00\xfe\xff\xff", frame.Torn}, {"\x00\xff\xff\xff\x00\x00", frame.Torn},
	} {
		opensNot(t, []byte(x.b), x.want)
	}
	opensNot(t, nil, frame.Torn)
}

// P3.1: 65536 may be, 65537 may not, though its sum is right.
func TestOpenTheLongest(t *testing.T) {
	for _, n := range []int{65535, 65536} {
		opens(t, frameOf(n, make([]byte, n)), make([]byte, n))
	}
	for _, n := range []int{65537, 65538, 1 << 17, 1<<24 - 1} {
		opensNot(t, frameOf(n, make([]byte, n)), frame.Bad)
	}
}

// P3.1: a sum is asked once all of it is there, to its last bit, and it is that of all ahead of it.
func TestOpenSums(t *testing.T) {
	head := "\x00\x00\x00\xff\xff\xff"
	for _, x := range []struct {
		b    string
		want frame.State
	}{
		{head + "\x06\x00\x02", frame.Torn}, {head + "\x07", frame.Torn}, {head + "\x07\x07\x07", frame.Torn},
		{head + "\x06\x00\x02\xff", frame.Bad}, {head + "\x06\x00\x03\xfe", frame.Bad}, {head + "\x06\x01\x02\xfe", frame.Bad}, {head + "\x07\x00\x02\xfe", frame.Bad},
		{head + "\x02\xfe\x06\x00", frame.Bad}, {head + "\xfe\x02\x00\x06", frame.Bad}, {head + "\x00\x00\x00\x01", frame.Bad}, {head + "\x00\x00\x00\x00", frame.Bad},
		{head + "\x06\x00\x02\xff\x06\x00\x02\xfe", frame.Bad},
	} {
		opensNot(t, []byte(x.b), x.want)
	}
	payload := []byte("payload")
	b := frameOf(len(payload), payload)
	opensNot(t, slices.Concat(b[:13], sumOf(payload)), frame.Bad)
	opensNot(t, slices.Concat(b[:13], sumOf(b)), frame.Bad)
	// what is told beside 65521 is no sum, though as much is left of it
	first := frameOf(len(withFirst(65522)), withFirst(65522))
	opens(t, first, withFirst(65522))
	first[len(first)-2], first[len(first)-1] = 255, 242
	opensNot(t, first, frame.Bad)
	second := frameOf(256, withSecond(3))
	opens(t, second, withSecond(3))
	second[262], second[263] = 255, 244
	opensNot(t, second, frame.Bad)
}

// P3.3: cut anywhere.
func TestOpenOfAFrameThatIsCut(t *testing.T) {
	for _, n := range []int{0, 1, 2, 5, 255, 256, 300, 65535, 65536} {
		b := frameOf(n, drawn(n))
		for k := range b {
			opensNot(t, b[:k], frame.Torn)
		}
		opens(t, b, drawn(n))
	}
}

// P3.3: each byte any other one, with and without bytes behind.
func TestOpenOfAFrameWithAnotherByte(t *testing.T) {
	for _, n := range []int{0, 1, 2, 5, 255, 256, 300} {
		b := frameOf(n, drawn(n))
		both := slices.Concat(b, b)
		for k := range b {
			was := b[k]
			for range 255 {
				b[k]++
				both[k] = b[k]
				opensNot(t, b, frame.Bad)
				opensNot(t, both, frame.Bad)
			}
			b[k]++
			both[k] = was
		}
		opens(t, b, drawn(n))
		opens(t, both, drawn(n))
	}
}

// P3.3: in long ones.
func TestOpenOfALongFrameWithAnotherByte(t *testing.T) {
	for _, n := range []int{65535, 65536} {
		b := frameOf(n, drawn(n))
		for k := range b {
			if k > 8 && k < n && k%1009 != 0 {
				continue
			}
			for _, more := range []byte{1, 15, 128, 241, 255} {
				b[k] += more
				opensNot(t, b, frame.Bad)
				opensNot(t, append(b, 0, 0, 0), frame.Bad)
				b[k] -= more
			}
		}
		opens(t, b, drawn(n))
	}
}

// P3.3: a byte that is left out, or put in.
func TestOpenOfBytesThatAreMoved(t *testing.T) {
	b := frameOf(40, drawn(40))
	for k := 6; k < 45; k++ {
		opensNot(t, slices.Delete(bytes.Clone(b), k, k+1), frame.Torn)
		opensNot(t, slices.Insert(bytes.Clone(b), k, b[k]+1), frame.Bad)
	}
}

// P3.1: any bytes.
func TestOpenAnyBytes(t *testing.T) {
	r := rand.New(rand.NewPCG(3, 4))
	signs := []byte{0, 0, 0, 1, 2, 3, 252, 253, 254, 255, 255, 255}
	met := map[frame.State]int{}
	for range 300000 {
		b := make([]byte, r.IntN(14))
		for i := range b {
			b[i] = signs[r.IntN(len(signs))]
		}
		for i := 3; i < min(6, len(b)) && r.IntN(8) > 0; i++ {
			b[i] = 255 - b[i-3]
		}
		if len(b) >= 10 && r.IntN(2) == 0 {
			n := r.IntN(len(b) - 9)
			copy(b, frameOf(n, b[6:6+n]))
			b[r.IntN(len(b))] += byte(r.IntN(2))
		}
		size, want := goesOn(b)
		met[want]++
		if want == frame.Whole {
			opens(t, b, b[6:size-4])
			continue
		}
		opensNot(t, b, want)
	}
	if met[frame.Whole] < 1000 || met[frame.Torn] < 1000 || met[frame.Bad] < 1000 {
		t.Error(met)
	}
}

// P3.4.
func TestOpenLeavesItsBytesAlone(t *testing.T) {
	for _, n := range sizes() {
		payload := drawn(n)
		room := append(frameOf(n, payload), drawn(40)...)
		was := bytes.Clone(room)
		for _, upTo := range []int{n + 10, n + 9, n + 25} {
			_, _, _ = frame.Open(room[:upTo])
			if !bytes.Equal(room, was) {
				t.Fatalf("%d bytes: changed, or their spare room", n)
			}
		}
		got, _, _ := frame.Open(room[:n+10])
		clear(room)
		if !bytes.Equal(got, payload) {
			t.Fatalf("%d bytes: the payload changes with the frame", n)
		}
		copy(room, was)
		clear(got)
		_ = append(got, "more than was there, a good deal"...)
		if !bytes.Equal(room, was) {
			t.Fatalf("%d bytes: the frame changes with the payload", n)
		}
		opens(t, room, payload)
	}
}
