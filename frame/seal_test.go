package frame_test

import (
	"bytes"
	"math/rand/v2"
	"slices"
	"testing"

	"cicerone/api"
	"cicerone/frame"
)

// mustSeal is the frame of a payload that isn't too long.
func mustSeal(t *testing.T, payload []byte) []byte {
	t.Helper()
	b, e := frame.Seal(payload)
	if e != api.OK {
		t.Fatalf("Seal of %d bytes: %d", len(payload), e)
	}
	return b
}

// drawn is n bytes, the same in every run.
func drawn(n int) []byte {
	r := rand.New(rand.NewPCG(uint64(n), 1))
	b := make([]byte, n)
	for i := range b {
		b[i] = byte(r.Uint32())
	}
	return b
}

// sizes are the payloads' lengths at which a byte of the length changes, and the ends.
func sizes() []int {
	return []int{0, 1, 2, 3, 4, 10, 254, 255, 256, 257, 511, 512, 4096, 65279, 65280, 65534, 65535, 65536}
}

// sumOf adds each byte as often as it counts, and takes what is left at the end alone.
func sumOf(b []byte) []byte {
	first, second := 1, len(b)
	for i, c := range b {
		first += int(c)
		second += int(c) * (len(b) - i)
	}
	first, second = first%65521, second%65521
	return []byte{byte(second / 256), byte(second % 256), byte(first / 256), byte(first % 256)}
}

func lengthOf(n int) []byte {
	return []byte{byte(n / 65536), byte(n / 256 % 256), byte(n % 256)}
}

// frameOf is a frame, made by hand; n is what it tells of its payload's length.
func frameOf(n int, payload []byte) []byte {
	l := lengthOf(n)
	b := slices.Concat(l, []byte{255 - l[0], 255 - l[1], 255 - l[2]}, payload)
	return append(b, sumOf(b)...)
}

// P3.1.
func TestSealExamples(t *testing.T) {
	for _, x := range []struct{ payload, want string }{
		{"", "\x00\x00\x00\xff\xff\xff\x06\x00\x02\xfe"},
		{"ab", "\x00\x00\x02\xff\xff\xfdab\x0d\x26\x03\xc1"},
		{"\x00", "\x00\x00\x01\xff\xff\xfe\x00\x09\x01\x02\xfe"},
		{"\xff", "\x00\x00\x01\xff\xff\xfe\xff\x0a\x00\x03\xfd"},
	} {
		if got, e := frame.Seal([]byte(x.payload)); string(got) != x.want || e != api.OK {
			t.Errorf("Seal(%q): %x, %d", x.payload, got, e)
		}
	}
	if got, e := frame.Seal(nil); string(got) != "\x00\x00\x00\xff\xff\xff\x06\x00\x02\xfe" || e != api.OK {
		t.Errorf("%x, %d", got, e)
	}
}

// P3.1: of all lengths, and 10 bytes more.
func TestSealSizes(t *testing.T) {
	for _, n := range sizes() {
		for _, payload := range [][]byte{drawn(n), make([]byte, n), bytes.Repeat([]byte{255}, n)} {
			got := mustSeal(t, payload)
			if len(got) != n+10 || !bytes.Equal(got, frameOf(n, payload)) {
				t.Errorf("%d bytes: a frame of %d", n, len(got))
			}
		}
	}
	head := mustSeal(t, make([]byte, 65536))[:6]
	if !bytes.Equal(head, []byte{1, 0, 0, 254, 255, 255}) {
		t.Error(head)
	}
	head = mustSeal(t, make([]byte, 65535))[:6]
	if !bytes.Equal(head, []byte{0, 255, 255, 255, 0, 0}) {
		t.Error(head)
	}
}

// P3.1: too long, also by as much that three bytes would tell of a short one.
func TestSealTooLong(t *testing.T) {
	for _, n := range []int{65537, 65538, 1 << 17, 1<<24 - 1, 1 << 24, 1<<24 + 5} {
		if got, e := frame.Seal(make([]byte, n)); got != nil || e != api.ErrRange {
			t.Errorf("%d bytes: a frame of %d, %d", n, len(got), e)
		}
	}
}

// withFirst is a payload in whose frame the first number, taken whole, has this; head bytes and the 1 ahead of them make 766.
func withFirst(whole int) []byte {
	rest := whole - 766
	return append(bytes.Repeat([]byte{255}, rest/255), byte(rest%255))
}

// withSecond is a payload of 256 bytes in whose frame the second number is this.
func withSecond(want int) []byte {
	payload := make([]byte, 256)
	sum := sumOf(frameOf(256, payload)[:262])
	more := (want - int(sum[0])*256 - int(sum[1]) + 65521) % 65521
	payload[0], payload[255] = byte(more/256), byte(more%256)
	return payload
}

// P3.1: sums up to 65521, at it, and past it.
func TestSealSumsThatPass(t *testing.T) {
	for whole, want := range map[int]string{
		65520: "\xff\xf0", 65521: "\x00\x00", 65522: "\x00\x01", 65536: "\x00\x0f", 65537: "\x00\x10",
		131041: "\xff\xf0", 131042: "\x00\x00", 131043: "\x00\x01",
	} {
		b := mustSeal(t, withFirst(whole))
		if string(b[len(b)-2:]) != want || !bytes.Equal(b[len(b)-4:], sumOf(b[:len(b)-4])) {
			t.Errorf("%d: %x", whole, b[len(b)-4:])
		}
	}
	for second, want := range map[int]string{
		0: "\x00\x00", 1: "\x00\x01", 15: "\x00\x0f", 255: "\x00\xff", 256: "\x01\x00", 65519: "\xff\xef", 65520: "\xff\xf0",
	} {
		b := mustSeal(t, withSecond(second))
		if string(b[262:264]) != want || !bytes.Equal(b[262:], sumOf(b[:262])) {
			t.Errorf("%d: %x", second, b[262:])
		}
		if p, n, s := frame.Open(b); len(p) != 256 || n != 266 || s != frame.Whole {
			t.Error(second, n, s)
		}
	}
}

// P3.4.
func TestSealLeavesItsPayloadAlone(t *testing.T) {
	for _, n := range sizes() {
		room := drawn(n + 20)
		was := bytes.Clone(room)
		got := mustSeal(t, room[:n])
		kept := bytes.Clone(got)
		if !bytes.Equal(room, was) {
			t.Fatalf("%d bytes: changed, or their spare room", n)
		}
		clear(room)
		if !bytes.Equal(got, kept) {
			t.Fatalf("%d bytes: the frame changes with the payload", n)
		}
		copy(room, was)
		clear(got)
		_ = append(got, "more than was there, a good deal"...)
		if !bytes.Equal(room, was) {
			t.Fatalf("%d bytes: the payload changes with the frame", n)
		}
		if again := mustSeal(t, room[:n]); !bytes.Equal(again, kept) {
			t.Fatalf("%d bytes: another frame behind the first one was changed", n)
		}
	}
}
