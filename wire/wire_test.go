package wire

import (
	"bytes"
	"encoding/binary"
	"errors"
	"math"
	"slices"
	"testing"

	"glyphic/api"
)

// many is n bytes that go on, without a bit of the number, and those behind them.
func many(n int, last ...byte) []byte {
	return append(bytes.Repeat([]byte{0x80}, n), last...)
}

// numbers are those around each power of two, where the counts of bytes change among them.
func numbers() []uint64 {
	var out []uint64
	for bit := range 64 {
		p := uint64(1) << bit
		out = append(out, p-1, p, p+1, p|1, p|p>>1, -p, ^p)
	}
	return append(out, 300, 1000000, 552285, math.MaxUint64)
}

// written are numbers and their bytes, by hand.
func written() []struct {
	n uint64
	b []byte
} {
	return []struct {
		n uint64
		b []byte
	}{
		{300, []byte{0xac, 0x02}}, // the document's example
		{0, []byte{0}}, {1, []byte{1}}, {5, []byte{5}}, {127, []byte{0x7f}},
		{128, []byte{0x80, 1}}, {129, []byte{0x81, 1}}, {255, []byte{0xff, 1}}, {256, []byte{0x80, 2}}, {16383, []byte{0xff, 0x7f}},
		{16384, []byte{0x80, 0x80, 1}}, {1<<21 - 1, []byte{0xff, 0xff, 0x7f}}, {1 << 21, many(3, 1)}, {1 << 28, many(4, 1)}, {1 << 35, many(5, 1)}, {1 << 42, many(6, 1)}, {1 << 49, many(7, 1)}, {1 << 56, many(8, 1)},
		{1<<63 - 1, []byte{0xff, 0xff, 0xff, 0xff, 0xff, 0xff, 0xff, 0xff, 0x7f}},
		{1 << 63, many(9, 1)},
		{math.MaxUint64, []byte{0xff, 0xff, 0xff, 0xff, 0xff, 0xff, 0xff, 0xff, 0xff, 1}},
	}
}

// checkError holds an answer of Get against an error at that place.
func checkError(t *testing.T, b []byte, at int, want error) {
	t.Helper()
	n, end, err := Get(b, at)
	var place *api.At
	if n != 0 || end != 0 || !errors.As(err, &place) || place.Pos != at || place.Err != want {
		t.Errorf("Get(% x, %d): %d, %d, %v, not %d: %v", b, at, n, end, err, at, want)
	}
}

func checkNumber(t *testing.T, b []byte, at int, want uint64, behind int) {
	t.Helper()
	if n, end, err := Get(b, at); n != want || end != behind || err != nil {
		t.Errorf("Get(% x, %d): %d, %d, %v, not %d, %d", b, at, n, end, err, want, behind)
	}
}

// P2.1
func TestPut(t *testing.T) {
	for _, x := range written() {
		if got := Put(nil, x.n); !bytes.Equal(got, x.b) {
			t.Errorf("Put(nil, %d): % x, not % x", x.n, got, x.b)
		}
		ahead := []byte{7, 0x80, 0}
		if got, want := Put(ahead, x.n), slices.Concat(ahead, x.b); !bytes.Equal(got, want) {
			t.Errorf("Put(% x, %d): % x, not % x", ahead, x.n, got, want)
		}
		if got := Put([]byte{}, x.n); !bytes.Equal(got, x.b) {
			t.Errorf("Put of an empty list, %d: % x, not % x", x.n, got, x.b)
		}
	}
	for _, n := range numbers() {
		if got, want := Put([]byte{9}, n), binary.AppendUvarint([]byte{9}, n); !bytes.Equal(got, want) {
			t.Errorf("Put(9, %d): % x, not % x", n, got, want)
		}
	}
}

// P2.1
func TestSize(t *testing.T) {
	for _, x := range written() {
		if got := Size(x.n); got != len(x.b) {
			t.Errorf("Size(%d): %d, not %d", x.n, got, len(x.b))
		}
	}
	for _, n := range numbers() {
		if got, want := Size(n), len(binary.AppendUvarint(nil, n)); got != want {
			t.Errorf("Size(%d): %d, not %d", n, got, want)
		}
	}
}

// P2.1, P0.4: what is handed in stays, its spare room too, and no two answers share memory.
func TestPutIsNewMemory(t *testing.T) {
	room := []byte{1, 2, 3, 4, 5, 6, 7, 8, 9, 10, 11, 12, 13, 14, 15}
	kept := slices.Clone(room)
	one, two := Put(room[:2], 1<<63), Put(room[:2], 300)
	if !bytes.Equal(room, kept) {
		t.Errorf("Put wrote into what it was given: %v", room)
	}
	if want := slices.Concat([]byte{1, 2}, many(9, 1)); !bytes.Equal(one, want) {
		t.Errorf("the first answer: % x, not % x", one, want)
	}
	one[0] = 99
	if room[0] != 1 || two[0] != 1 {
		t.Error("an answer shares its memory")
	}
	base := Put(nil, 5)
	a, b := Put(base, 6), Put(base, 7)
	a, b = append(a, 1), append(b, 2)
	if !bytes.Equal(a, []byte{5, 6, 1}) || !bytes.Equal(b, []byte{5, 7, 2}) || !bytes.Equal(base, []byte{5}) {
		t.Errorf("answers share spare room: %v, %v, %v", a, b, base)
	}
}

// P2.1: at the beginning, behind others, and ahead of others.
func TestGet(t *testing.T) {
	check := func(n uint64, b []byte) {
		checkNumber(t, b, 0, n, len(b))
		checkNumber(t, slices.Concat(b, []byte{0}), 0, n, len(b))
		checkNumber(t, slices.Concat([]byte{0x80, 0xff}, b), 2, n, len(b)+2)
		checkNumber(t, slices.Concat([]byte{0}, b, []byte{0xff, 0xff}), 1, n, len(b)+1)
	}
	for _, x := range written() {
		check(x.n, x.b)
	}
	for _, n := range numbers() {
		check(n, binary.AppendUvarint(nil, n))
	}
	// A 0x80 is no 0, first or not.
	checkNumber(t, []byte{0x80, 0x80, 0x01}, 0, 1<<14, 3)
	// From the midst of a number: what is there is one too.
	checkNumber(t, []byte{0xff, 0xff, 0x03}, 1, 0x1ff, 3)
	checkNumber(t, []byte{0x80, 0x00}, 1, 0, 2)
	checkNumber(t, many(12, 1), 3, 1<<63, 13)
}

// P2.1: there is no byte, at the place or further on.
func TestGetShort(t *testing.T) {
	for _, b := range [][]byte{nil, {}, {1}, {0x80}, {1, 2, 3}} {
		for _, at := range []int{len(b), len(b) + 1, len(b) + 99, math.MaxInt, -1, -2, -len(b) - 1, math.MinInt} {
			checkError(t, b, at, api.ErrShort)
		}
	}
	for _, x := range written() {
		for cut := range x.b {
			checkError(t, x.b[:cut], 0, api.ErrShort)
			checkError(t, slices.Concat([]byte{3, 3}, x.b[:cut]), 2, api.ErrShort)
		}
	}
	checkError(t, many(9), 0, api.ErrShort)
	checkError(t, bytes.Repeat([]byte{0xff}, 9), 0, api.ErrShort)
}

// P2.1, P0.4: bytes behind the length are none.
func TestGetKeepsToTheLength(t *testing.T) {
	b := []byte{0xac, 0x02, 0x00}
	checkError(t, b[:1], 0, api.ErrShort)
	checkError(t, b[:0], 0, api.ErrShort)
	checkError(t, b[:2], 2, api.ErrShort)
	if !bytes.Equal(b, []byte{0xac, 0x02, 0x00}) {
		t.Errorf("Get wrote into what it was given: % x", b)
	}
}

// P2.1: a tenth byte above 1, or a 0 that is not the first.
func TestGetVarint(t *testing.T) {
	for c := 2; c < 256; c++ {
		checkError(t, many(9, byte(c)), 0, api.ErrVarint)
		checkError(t, slices.Concat([]byte{4}, many(9, byte(c), 1)), 1, api.ErrVarint)
	}
	for ahead := 1; ahead <= 9; ahead++ {
		checkError(t, many(ahead, 0), 0, api.ErrVarint)
		checkError(t, many(ahead, 0, 1), 0, api.ErrVarint)
		checkError(t, slices.Concat([]byte{1, 1}, bytes.Repeat([]byte{0xff}, ahead), []byte{0}), 2, api.ErrVarint)
	}
	// The tenth byte is met ahead of the end that is amiss too.
	checkError(t, many(10), 0, api.ErrVarint)
	checkError(t, many(40), 5, api.ErrVarint)
	checkError(t, bytes.Repeat([]byte{0xff}, 10), 0, api.ErrVarint)
	checkError(t, many(10, 0), 0, api.ErrVarint)
	checkNumber(t, many(9, 1), 0, 1<<63, 10)
}

// wantGet is what the document says, by encoding/binary: that reads longer forms too, so what it read is written again;
// and where just ten bytes are there and all go on, it waits for an eleventh.
func wantGet(b []byte, at int) (uint64, int, error) {
	if at < 0 || at > len(b) {
		return 0, 0, api.ErrShort
	}
	n, size := binary.Uvarint(b[at:])
	switch {
	case size == 0 && len(b)-at < binary.MaxVarintLen64:
		return 0, 0, api.ErrShort
	case size <= 0 || len(binary.AppendUvarint(nil, n)) != size:
		return 0, 0, api.ErrVarint
	}
	return n, at + size, nil
}

// P2.1: all lists of up to four of some bytes, alone and behind up to nine that go on, at each place.
func TestGetAgainstBinary(t *testing.T) {
	lists := [][]byte{{}}
	for first, length := 0, 1; length <= 4; length++ {
		last := len(lists)
		for ; first < last; first++ {
			for _, c := range []byte{0, 1, 2, 0x7f, 0x80, 0x81, 0xff} {
				lists = append(lists, slices.Concat(lists[first], []byte{c}))
			}
		}
	}
	for _, list := range lists {
		for ahead := range 10 {
			b := many(ahead, list...)
			for at := -1; at <= len(b)+1; at++ {
				if n, end, err := wantGet(b, at); err != nil {
					checkError(t, b, at, err)
				} else {
					checkNumber(t, b, at, n, end)
				}
			}
		}
	}
}

// P2.2
func TestZigZag(t *testing.T) {
	check := func(n int64, want uint64) {
		t.Helper()
		if got := Zig(n); got != want {
			t.Errorf("Zig(%d): %d, not %d", n, got, want)
		}
		if got := Zag(want); got != n {
			t.Errorf("Zag(%d): %d, not %d", want, got, n)
		}
	}
	for want, n := range []int64{0, -1, 1, -2, 2, -3, 3, -4} {
		check(n, uint64(want))
	}
	check(300, 600)
	check(-300, 599)
	check(1<<32, 1<<33)
	check(-1<<32, 1<<33-1)
	check(1<<62, 1<<63)
	check(-1<<62, 1<<63-1)
	check(-1<<62-1, 1<<63+1)
	check(math.MaxInt64, math.MaxUint64-1)
	check(math.MinInt64+1, math.MaxUint64-2)
	check(math.MinInt64, math.MaxUint64)
}

// P2.2: twice n above 0, twice its size less 1 below; each number comes back, whichever call is first.
func TestZigZagBack(t *testing.T) {
	for _, n := range numbers() {
		if got := Zig(Zag(n)); got != n {
			t.Errorf("Zig(Zag(%d)): %d", n, got)
		}
		m := int64(n)
		if got := Zag(Zig(m)); got != m {
			t.Errorf("Zag(Zig(%d)): %d", m, got)
		}
		want := 2 * n
		if m < 0 {
			want = 2*-n - 1
		}
		if got := Zig(m); got != want {
			t.Errorf("Zig(%d): %d, not %d", m, got, want)
		}
	}
}
