package varint_test

import (
	"bytes"
	"encoding/binary"
	"math"
	"slices"
	"testing"

	"macaroon/api"
	"macaroon/varint"
)

// numbers returns numbers from 0 to MaxNumber: small ones, and those around the ends of the groups and around single bits.
func numbers() []int {
	l := []int{0x123456789abc, 0xfedcba987654, 0xaaaaaaaaaaaa, 0x555555555555}
	for n := range 1 << 15 {
		l = append(l, n)
	}
	for bit := range 49 {
		for d := -2; d <= 2; d++ {
			l = append(l, 1<<bit+d, 1<<48-1<<bit+d)
		}
	}
	slices.Sort(l)
	l = slices.Compact(l)
	return slices.DeleteFunc(l, func(n int) bool { return n < 0 || n > 1<<48 })
}

// eachString calls f for every string of size bytes that are among the given ones.
func eachString(size int, among []byte, f func(b []byte)) {
	b := make([]byte, size)
	var extend func(i int)
	extend = func(i int) {
		if i == size {
			f(b)
			return
		}
		for _, x := range among {
			b[i] = x
			extend(i + 1)
		}
	}
	extend(0)
}

func allBytes() []byte {
	var l []byte
	for x := range 256 {
		l = append(l, byte(x))
	}
	return l
}

// described returns what P3.2 says of the number at the beginning of b.
func described(b []byte) (int, int, api.Errno) {
	last := slices.IndexFunc(b, func(x byte) bool { return x&128 == 0 })
	if last < 0 && len(b) < 7 {
		return 0, 0, api.ErrShort
	}
	if last < 0 || last >= 7 || last > 0 && b[last] == 0 {
		return 0, 0, api.ErrForm
	}
	n := 0
	for i := last; i >= 0; i-- {
		n = n*128 + int(b[i]%128)
	}
	if n > 1<<48 {
		return 0, 0, api.ErrRange
	}
	return n, last + 1, api.OK
}

func checkRead(t *testing.T, b []byte) {
	t.Helper()
	n, used, e := varint.Read(b)
	if wantN, wantUsed, wantE := described(b); n != wantN || used != wantUsed || e != wantE {
		t.Errorf("Read(%v) = %d, %d, %d, want %d, %d, %d", b, n, used, e, wantN, wantUsed, wantE)
	}
}

// P3.1, P3.2: encodings that are written out, the document's example among them.
func TestWrittenEncodings(t *testing.T) {
	for _, c := range []struct {
		n     int
		bytes []byte
	}{
		{0, []byte{0}},
		{1, []byte{1}},
		{127, []byte{127}},
		{128, []byte{128, 1}},
		{255, []byte{255, 1}},
		{256, []byte{128, 2}},
		{300, []byte{172, 2}},
		{1<<14 - 1, []byte{255, 127}},
		{1 << 14, []byte{128, 128, 1}},
		{1<<21 - 1, []byte{255, 255, 127}},
		{1 << 21, []byte{128, 128, 128, 1}},
		{1<<28 - 1, []byte{255, 255, 255, 127}},
		{1 << 28, []byte{128, 128, 128, 128, 1}},
		{1<<35 - 1, []byte{255, 255, 255, 255, 127}},
		{1 << 35, []byte{128, 128, 128, 128, 128, 1}},
		{1<<42 - 1, []byte{255, 255, 255, 255, 255, 127}},
		{1 << 42, []byte{128, 128, 128, 128, 128, 128, 1}},
		{1<<48 - 1, []byte{255, 255, 255, 255, 255, 255, 63}},
		{1 << 48, []byte{128, 128, 128, 128, 128, 128, 64}},
	} {
		if b, e := varint.Append(nil, c.n); !bytes.Equal(b, c.bytes) || e != api.OK {
			t.Errorf("Append(nil, %d) = %v, %d, want %v", c.n, b, e, c.bytes)
		}
		if n, used, e := varint.Read(c.bytes); n != c.n || used != len(c.bytes) || e != api.OK {
			t.Errorf("Read(%v) = %d, %d, %d, want %d", c.bytes, n, used, e, c.n)
		}
	}
}

// P3.1: the groups of all kinds of numbers, as the standard library computes them.
func TestAppendOfNumbers(t *testing.T) {
	for _, n := range numbers() {
		want := binary.AppendUvarint(nil, uint64(n))
		if b, e := varint.Append(nil, n); !bytes.Equal(b, want) || e != api.OK {
			t.Errorf("Append(nil, %d) = %v, %d, want %v", n, b, e, want)
		}
	}
}

// P3.1: no more groups than needed: n has as many as its bits take, and 0 has one.
func TestNoMoreGroupsThanNeeded(t *testing.T) {
	for _, n := range numbers() {
		groups := 1
		for m := n >> 7; m > 0; m >>= 7 {
			groups++
		}
		b, _ := varint.Append(nil, n)
		if len(b) != groups || len(b) > 1 && b[len(b)-1] == 0 {
			t.Errorf("%d has the groups %v", n, b)
		}
	}
}

// P3.1: the bytes of b come first, whatever they are and however many.
func TestAppendBehindBytes(t *testing.T) {
	for _, before := range [][]byte{nil, {}, {0}, {128}, {255, 255}, allBytes(), make([]byte, 5000)} {
		for _, n := range []int{0, 127, 128, 300, 1 << 42, api.MaxNumber} {
			want := binary.AppendUvarint(bytes.Clone(before), uint64(n))
			if b, e := varint.Append(before, n); !bytes.Equal(b, want) || e != api.OK {
				t.Errorf("Append of %d behind %d bytes = %v, %d", n, len(before), b, e)
			}
		}
	}
}

// P3.1: numbers out of the range have no encoding, and no bytes of b are returned with the error.
func TestAppendOutOfRange(t *testing.T) {
	for _, n := range []int{
		-1, -2, -127, -128, -300, -api.MaxNumber, math.MinInt32, math.MinInt + 1, math.MinInt,
		api.MaxNumber + 1, api.MaxNumber + 128, 2 * api.MaxNumber, 1<<49 - 1, 1 << 49, 1 << 56, 1 << 62, math.MaxInt,
	} {
		for _, before := range [][]byte{nil, {9}, {1, 2, 3}} {
			if b, e := varint.Append(before, n); len(b) != 0 || e != api.ErrRange {
				t.Errorf("Append(%v, %d) = %v, %d", before, n, b, e)
			}
		}
	}
}

// P3.2: what follows the number does not matter.
func TestReadBeforeOtherBytes(t *testing.T) {
	for _, n := range numbers() {
		b := binary.AppendUvarint(nil, uint64(n))
		for _, behind := range [][]byte{nil, {0}, {1}, {127}, {128}, {255, 255}, bytes.Repeat([]byte{128}, 20), bytes.Repeat([]byte{255}, 20)} {
			if m, used, e := varint.Read(slices.Concat(b, behind)); m != n || used != len(b) || e != api.OK {
				t.Errorf("Read of %v before %v = %d, %d, %d, want %d", b, behind, m, used, e, n)
			}
		}
	}
}

// P3.2: bytes with the bit 128 end too early if there are fewer than seven of them, and have a wrong form otherwise.
func TestReadWithoutLastByte(t *testing.T) {
	for size := range 7 {
		eachString(size, []byte{128, 129, 192, 255}, func(b []byte) {
			if n, used, e := varint.Read(b); n != 0 || used != 0 || e != api.ErrShort {
				t.Errorf("Read(%v) = %d, %d, %d", b, n, used, e)
			}
		})
	}
	eachString(7, []byte{128, 129, 192, 255}, func(b []byte) {
		for _, behind := range [][]byte{nil, {0}, {1}, {64}, {127}, {128}, {255, 1}, bytes.Repeat([]byte{128}, 20)} {
			if n, used, e := varint.Read(slices.Concat(b, behind)); n != 0 || used != 0 || e != api.ErrForm {
				t.Errorf("Read of %v before %v = %d, %d, %d", b, behind, n, used, e)
			}
		}
	})
}

// P3.2: a last byte 0 is only right if it is the only one.
func TestReadOfLastByteZero(t *testing.T) {
	for size := range 7 {
		eachString(size, []byte{128, 129, 192, 255}, func(b []byte) {
			for _, behind := range [][]byte{nil, {0}, {5}, {128, 1}} {
				want, wantUsed := api.ErrForm, 0
				if size == 0 {
					want, wantUsed = api.OK, 1
				}
				if n, used, e := varint.Read(slices.Concat(b, []byte{0}, behind)); n != 0 || used != wantUsed || e != want {
					t.Errorf("Read of %v, 0 and %v = %d, %d, %d", b, behind, n, used, e)
				}
			}
		})
	}
}

// P3.2: seven groups can have a number above MaxNumber.
func TestReadOutOfRange(t *testing.T) {
	for _, n := range []int{1<<48 + 1, 1<<48 + 2, 1<<48 + 128, 1<<48 + 1<<41, 1<<48 + 1<<42, 1<<49 - 128, 1<<49 - 1} {
		for _, behind := range [][]byte{nil, {0}, {255}} {
			b := append(binary.AppendUvarint(nil, uint64(n)), behind...)
			if m, used, e := varint.Read(b); m != 0 || used != 0 || e != api.ErrRange {
				t.Errorf("Read(%v) = %d, %d, %d", b, m, used, e)
			}
		}
	}
}

// P3.2: all strings of up to two bytes, and all strings of up to eight bytes at which something changes.
func TestReadOfAllStrings(t *testing.T) {
	for size := range 3 {
		eachString(size, allBytes(), func(b []byte) { checkRead(t, b) })
	}
	for size := range 9 {
		eachString(size, []byte{0, 1, 64, 127, 128, 255}, func(b []byte) { checkRead(t, b) })
	}
	if n, used, e := varint.Read(nil); n != 0 || used != 0 || e != api.ErrShort {
		t.Errorf("Read(nil) = %d, %d, %d", n, used, e)
	}
}

// P3.3: what is read from all strings of three bytes has just these bytes as its encoding, so that no number has two.
func TestEveryNumberHasOneEncoding(t *testing.T) {
	seen := map[int]bool{}
	eachString(3, allBytes(), func(b []byte) {
		n, used, e := varint.Read(b)
		if e != api.OK || !bytes.Equal(b[used:], make([]byte, 3-used)) {
			return
		}
		again, _ := varint.Append(nil, n)
		if !bytes.Equal(again, b[:used]) || seen[n] {
			t.Errorf("%d has the encodings %v and %v", n, b[:used], again)
		}
		seen[n] = true
	})
	if len(seen) != 1<<21 {
		t.Errorf("%d numbers are read from strings of three bytes", len(seen))
	}
}

// P3.3: numbers with more groups also have one encoding, and no number's encoding begins another one's.
func TestEncodingsOfLargeNumbers(t *testing.T) {
	eachString(7, []byte{0, 1, 63, 64, 127, 128, 129, 255}, func(b []byte) {
		n, used, e := varint.Read(b)
		if e != api.OK {
			return
		}
		if again, _ := varint.Append(nil, n); !bytes.Equal(again, b[:used]) {
			t.Errorf("%d has the encodings %v and %v", n, b[:used], again)
		}
	})
	for _, n := range numbers() {
		b, _ := varint.Append(nil, n)
		for size := range len(b) {
			if m, used, e := varint.Read(b[:size]); m != 0 || used != 0 || e != api.ErrShort {
				t.Errorf("the first %d bytes of %v are read as %d, %d, %d", size, b, m, used, e)
			}
		}
	}
}

// P3.3: encodings that stand one behind another are read one after another.
func TestNumbersBehindOneAnother(t *testing.T) {
	l := numbers()[1<<15-100:]
	var b []byte
	for _, n := range l {
		b, _ = varint.Append(b, n)
	}
	for _, n := range l {
		m, used, e := varint.Read(b)
		if m != n || e != api.OK {
			t.Fatalf("%d is read as %d, %d", n, m, e)
		}
		b = b[used:]
	}
	if len(b) != 0 {
		t.Errorf("%v is left over", b)
	}
}

// R3: arguments are not modified, not even the memory behind them, and results share no memory with them or with one another.
func TestNoSharedMemory(t *testing.T) {
	for _, size := range []int{0, 1, 2, 50} {
		for _, n := range []int{5, 300, api.MaxNumber, -1, api.MaxNumber + 1} {
			memory := bytes.Repeat([]byte{77}, 100)
			x, _ := varint.Append(memory[:size], n)
			y, _ := varint.Append(memory[:size], n)
			kept := bytes.Clone(y)
			clear(x[:cap(x)])
			if !bytes.Equal(y, kept) || !bytes.Equal(memory, bytes.Repeat([]byte{77}, 100)) {
				t.Errorf("Append of %d behind %d bytes shares memory", n, size)
			}
			clear(memory)
			if !bytes.Equal(y, kept) {
				t.Errorf("Append of %d behind %d bytes keeps its argument", n, size)
			}
		}
	}
	b := []byte{255, 255, 3, 9, 9}
	varint.Read(b[:2])
	varint.Read(b)
	if !bytes.Equal(b, []byte{255, 255, 3, 9, 9}) {
		t.Errorf("Read changed its argument to %v", b)
	}
}
