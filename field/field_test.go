package field_test

import (
	"bytes"
	"encoding/binary"
	"slices"
	"testing"

	"macaroon/api"
	"macaroon/field"
	"macaroon/varint"
)

// sample returns n bytes that differ from their neighbours.
func sample(n int) []byte {
	b := make([]byte, n)
	for i := range b {
		b[i] = byte(i*i + 7*i + i>>6 + 129)
	}
	return b
}

// written returns the bytes of the field x, with the length as the standard library encodes it.
func written(x []byte) []byte {
	return append(binary.AppendUvarint(nil, uint64(len(x))), x...)
}

// writtenList returns the fields of l, one after another.
func writtenList(l [][]byte) []byte {
	var b []byte
	for _, x := range l {
		b = append(b, written(x)...)
	}
	return b
}

// described returns what P4.1 says of the field at the beginning of b.
func described(b []byte) ([]byte, int, api.Errno) {
	n, used, e := varint.Read(b)
	if e != api.OK {
		return nil, 0, e
	}
	if n > 1024 {
		return nil, 0, api.ErrLimit
	}
	if len(b[used:]) < n {
		return nil, 0, api.ErrShort
	}
	return b[used:][:n], used + n, api.OK
}

// describedList returns what P4.2 says of the fields of which b consists.
func describedList(b []byte) ([][]byte, api.Errno) {
	if len(b) == 0 {
		return nil, api.OK
	}
	x, used, e := described(b)
	if e != api.OK {
		return nil, e
	}
	l, e := describedList(b[used:])
	if e != api.OK {
		return nil, e
	}
	return append([][]byte{x}, l...), api.OK
}

// eachString calls f for every string of size bytes that are among the given ones.
func eachString(size int, among []byte, f func(b []byte)) {
	b := make([]byte, size)
	var extend func(i int)
	extend = func(i int) {
		if i == size {
			f(b)
			return
		}
		for _, x := range among {
			b[i] = x
			extend(i + 1)
		}
	}
	extend(0)
}

func allBytes() []byte {
	var l []byte
	for x := range 256 {
		l = append(l, byte(x))
	}
	return l
}

func sameList(l, m [][]byte) bool {
	return slices.EqualFunc(l, m, func(x, y []byte) bool { return bytes.Equal(x, y) })
}

func cloneList(l [][]byte) [][]byte {
	m := make([][]byte, len(l))
	for i, x := range l {
		m[i] = bytes.Clone(x)
	}
	return m
}

func checkRead(t *testing.T, b []byte) {
	t.Helper()
	x, used, e := field.Read(b)
	if wantX, wantUsed, wantE := described(b); !bytes.Equal(x, wantX) || used != wantUsed || e != wantE {
		t.Errorf("Read(%.20v) = %.20v, %d, %d, want %.20v, %d, %d", b, x, used, e, wantX, wantUsed, wantE)
	}
}

func checkAll(t *testing.T, b []byte) {
	t.Helper()
	l, e := field.All(b)
	if want, wantE := describedList(b); !sameList(l, want) || e != wantE {
		t.Errorf("All(%.20v) = %.20v, %d, want %.20v, %d", b, l, e, want, wantE)
	}
}

// P4.1: fields that are written out.
func TestWrittenFields(t *testing.T) {
	for _, c := range []struct{ x, bytes []byte }{
		{nil, []byte{0}},
		{[]byte{}, []byte{0}},
		{[]byte{0}, []byte{1, 0}},
		{[]byte{255}, []byte{1, 255}},
		{[]byte("ab"), []byte{2, 97, 98}},
		{[]byte{2, 97, 98}, []byte{3, 2, 97, 98}},
		{bytes.Repeat([]byte{7}, 127), append([]byte{127}, bytes.Repeat([]byte{7}, 127)...)},
		{bytes.Repeat([]byte{7}, 128), append([]byte{128, 1}, bytes.Repeat([]byte{7}, 128)...)},
		{bytes.Repeat([]byte{7}, 300), append([]byte{172, 2}, bytes.Repeat([]byte{7}, 300)...)},
		{bytes.Repeat([]byte{7}, 1023), append([]byte{255, 7}, bytes.Repeat([]byte{7}, 1023)...)},
		{bytes.Repeat([]byte{7}, 1024), append([]byte{128, 8}, bytes.Repeat([]byte{7}, 1024)...)},
	} {
		if b, e := field.Append(nil, c.x); !bytes.Equal(b, c.bytes) || e != api.OK {
			t.Errorf("Append(nil, %.20v) = %.20v, %d", c.x, b, e)
		}
		if x, used, e := field.Read(c.bytes); !bytes.Equal(x, c.x) || used != len(c.bytes) || e != api.OK {
			t.Errorf("Read(%.20v) = %.20v, %d, %d", c.bytes, x, used, e)
		}
	}
}

// P4.1: fields of all lengths, alone and behind other bytes, are appended; with other bytes behind them they are read.
func TestFieldsOfAllLengths(t *testing.T) {
	for n := range api.MaxField + 1 {
		x := sample(n)
		for _, other := range [][]byte{nil, {}, {0}, {128}, {255, 255}, {9, 2, 97}, sample(40)} {
			if b, e := field.Append(other, x); !bytes.Equal(b, slices.Concat(other, written(x))) || e != api.OK {
				t.Errorf("Append of %d bytes behind %.20v = %.20v, %d", n, other, b, e)
			}
			y, used, e := field.Read(slices.Concat(written(x), other))
			if !bytes.Equal(y, x) || used != len(written(x)) || e != api.OK {
				t.Errorf("Read of %d bytes before %.20v = %.20v, %d, %d", n, other, y, used, e)
			}
		}
	}
}

// P4.1: what stands before the field may be longer than a field can be.
func TestAppendBehindManyBytes(t *testing.T) {
	for _, size := range []int{1023, 1024, 1025, 5000, 1 << 20} {
		before := sample(size)
		if b, e := field.Append(before, []byte("ab")); !bytes.Equal(b, append(sample(size), 2, 97, 98)) || e != api.OK {
			t.Errorf("Append behind %d bytes = %d bytes, %d", size, len(b), e)
		}
	}
}

// P4.1: more than MaxField bytes are no field, and no bytes of b are returned with the error.
func TestAppendAboveTheLimit(t *testing.T) {
	for _, n := range []int{1025, 1026, 1151, 1152, 2048, 16384, 1 << 21} {
		for _, before := range [][]byte{nil, {9}, sample(2000)} {
			if b, e := field.Append(before, sample(n)); len(b) != 0 || e != api.ErrLimit {
				t.Errorf("Append of %d bytes behind %d = %d bytes, %d", n, len(before), len(b), e)
			}
		}
	}
}

// P4.1: each error of Read, and that the earlier one in the list is returned where two apply.
func TestErrorsOfRead(t *testing.T) {
	full := sample(api.MaxField + 1)
	for _, c := range []struct {
		name string
		b    []byte
		want api.Errno
	}{
		{"no bytes", nil, api.ErrShort},
		{"a length that ends too early", []byte{128}, api.ErrShort},
		{"a length that ends after six bytes", []byte{255, 255, 255, 255, 255, 255}, api.ErrShort},
		{"a length that is not canonical", []byte{128, 0}, api.ErrForm},
		{"a length that is not canonical, with bytes behind it", []byte{129, 0, 5, 5}, api.ErrForm},
		{"a length that is not canonical, with too few bytes behind it", []byte{133, 0, 5}, api.ErrForm},
		{"a length of more than seven bytes", bytes.Repeat([]byte{129}, 20), api.ErrForm},
		{"a length above MaxNumber", []byte{129, 128, 128, 128, 128, 128, 64}, api.ErrRange},
		{"the greatest length of seven bytes", []byte{255, 255, 255, 255, 255, 255, 127, 1}, api.ErrRange},
		{"the length MaxNumber", []byte{128, 128, 128, 128, 128, 128, 64}, api.ErrLimit},
		{"the length MaxField + 1, with no bytes behind it", []byte{129, 8}, api.ErrLimit},
		{"the length MaxField + 1, with so many bytes behind it", append([]byte{129, 8}, full...), api.ErrLimit},
		{"the length 2^32, of which 32 bits are zeros", append([]byte{128, 128, 128, 128, 16}, full...), api.ErrLimit},
		{"the length 2^32 + 1", append([]byte{129, 128, 128, 128, 16}, full...), api.ErrLimit},
		{"the length MaxField, with no bytes behind it", []byte{128, 8}, api.ErrShort},
		{"the length MaxField, with a byte too few behind it", append([]byte{128, 8}, full[:1023]...), api.ErrShort},
		{"the length 1, with no bytes behind it", []byte{1}, api.ErrShort},
		{"the length 3, with two bytes behind it", []byte{3, 97, 98}, api.ErrShort},
		{"the length 128, with its own bytes counted", append([]byte{128, 1}, full[:127]...), api.ErrShort},
	} {
		if x, used, e := field.Read(c.b); len(x) != 0 || used != 0 || e != c.want {
			t.Errorf("Read of %s = %.20v, %d, %d, want %d", c.name, x, used, e, c.want)
		}
		if l, e := field.All(c.b); len(c.b) > 0 && (len(l) != 0 || e != c.want) {
			t.Errorf("All of %s = %.20v, %d, want %d", c.name, l, e, c.want)
		}
	}
}

// P4.1: every length around its limits, before every number of bytes around it.
func TestReadOfLengths(t *testing.T) {
	for _, n := range []int{0, 1, 2, 3, 63, 126, 127, 128, 129, 255, 256, 1022, 1023, 1024, 1025, 1026, 1150, 1152, 2048, 4096} {
		for d := -3; d <= 3; d++ {
			if size := n + d; size >= 0 {
				checkRead(t, append(binary.AppendUvarint(nil, uint64(n)), sample(size)...))
			}
		}
	}
}

// P4.1, P4.2: all strings of up to two bytes, and all strings of up to seven bytes at which something changes.
func TestAllStrings(t *testing.T) {
	check := func(b []byte) {
		checkRead(t, b)
		checkAll(t, b)
	}
	for size := range 3 {
		eachString(size, allBytes(), check)
	}
	for size := range 8 {
		eachString(size, []byte{0, 1, 2, 5, 64, 128, 129}, check)
	}
}

// P4.1: a field that is cut off anywhere is ErrShort.
func TestFieldsThatAreCutOff(t *testing.T) {
	for _, n := range []int{0, 1, 2, 127, 128, 300, 1024} {
		b := written(sample(n))
		for size := range len(b) {
			if x, used, e := field.Read(b[:size]); len(x) != 0 || used != 0 || e != api.ErrShort {
				t.Errorf("Read of %d bytes of a field of %d = %.20v, %d, %d", size, n, x, used, e)
			}
		}
	}
}

// P4.2: joined lists that are written out, the document's example among them.
func TestWrittenLists(t *testing.T) {
	for _, c := range []struct {
		l     [][]byte
		bytes []byte
	}{
		{nil, nil},
		{[][]byte{}, []byte{}},
		{[][]byte{nil}, []byte{0}},
		{[][]byte{nil, {}, nil}, []byte{0, 0, 0}},
		{[][]byte{[]byte("ab"), nil}, []byte{2, 97, 98, 0}},
		{[][]byte{nil, []byte("ab")}, []byte{0, 2, 97, 98}},
		{[][]byte{{1}, {2, 3}, {4, 5, 6}}, []byte{1, 1, 2, 2, 3, 3, 4, 5, 6}},
		{[][]byte{{0}, {128}, {255}}, []byte{1, 0, 1, 128, 1, 255}},
		{[][]byte{{2, 97, 98, 0}, {4}}, []byte{4, 2, 97, 98, 0, 1, 4}},
	} {
		if b, e := field.Join(c.l); !bytes.Equal(b, c.bytes) || e != api.OK {
			t.Errorf("Join(%v) = %v, %d, want %v", c.l, b, e, c.bytes)
		}
		if l, e := field.All(c.bytes); !sameList(l, c.l) || e != api.OK {
			t.Errorf("All(%v) = %v, %d, want %v", c.bytes, l, e, c.l)
		}
	}
}

// P4.2: lists of fields of all lengths, and long lists.
func TestLists(t *testing.T) {
	var rising, many [][]byte
	for n := range api.MaxField + 1 {
		rising = append(rising, sample(n))
	}
	for n := range 1 << 17 {
		many = append(many, sample(n%20))
	}
	falling := slices.Clone(rising)
	slices.Reverse(falling)
	for _, l := range [][][]byte{rising, falling, slices.Concat(falling, rising), many, make([][]byte, 3000)} {
		b, e := field.Join(l)
		if !bytes.Equal(b, writtenList(l)) || e != api.OK {
			t.Errorf("Join of %d fields = %d bytes, %d", len(l), len(b), e)
		}
		if again, e := field.All(b); !sameList(again, l) || e != api.OK {
			t.Errorf("All of %d fields = %d fields, %d", len(l), len(again), e)
		}
	}
}

// P4.2: an element with more than MaxField bytes is an error wherever it stands, and nothing is returned of the other ones.
func TestJoinAboveTheLimit(t *testing.T) {
	for _, n := range []int{1025, 1026, 1152, 16384, 1 << 20} {
		for size := 1; size <= 4; size++ {
			for place := range size {
				l := slices.Repeat([][]byte{sample(1024)}, size)
				l[place] = sample(n)
				if b, e := field.Join(l); len(b) != 0 || e != api.ErrLimit {
					t.Errorf("Join with %d bytes at %d of %d = %d bytes, %d", n, place, size, len(b), e)
				}
			}
		}
	}
}

// P4.2: of several wrong fields the first one decides, and the fields before it are not returned.
func TestErrorsOfAll(t *testing.T) {
	type part struct {
		b    []byte
		want api.Errno
	}
	wrong := []part{
		{[]byte{128, 0}, api.ErrForm},
		{[]byte{129, 128, 128, 128, 128, 128, 64}, api.ErrRange},
		{[]byte{129, 8}, api.ErrLimit},
		{[]byte{128, 8, 1}, api.ErrShort},
	}
	for _, before := range [][][]byte{nil, {nil}, {{1}, {2, 3}}, {sample(1024), nil}} {
		for _, first := range wrong {
			for _, second := range append(wrong, part{}) {
				for _, after := range [][]byte{nil, {0}, {2, 97, 98}} {
					b := slices.Concat(writtenList(before), first.b, second.b, after)
					if l, e := field.All(b); len(l) != 0 || e != first.want {
						t.Errorf("All(%.20v) = %.20v, %d, want %d", b, l, e, first.want)
					}
				}
			}
		}
	}
	for _, b := range [][]byte{{1, 7, 2, 7}, {0, 128}, {0, 0, 1}, {2, 97, 98, 3, 97, 98}} {
		if l, e := field.All(b); len(l) != 0 || e != api.ErrShort {
			t.Errorf("All(%v) = %v, %d", b, l, e)
		}
	}
}

// P4.3: all lists of up to three fields from a set whose bytes look like lengths and like fields.
func TestDifferentListsHaveDifferentBytes(t *testing.T) {
	elements := [][]byte{nil, sample(127), sample(128), sample(1024), {129, 0}, {128, 8}, {0, 1, 0}, {1, 0, 0, 0}}
	for size := 1; size <= 2; size++ {
		eachString(size, []byte{0, 1, 2, 128}, func(b []byte) { elements = append(elements, bytes.Clone(b)) })
	}
	seen := map[string][][]byte{}
	var extend func(l [][]byte)
	extend = func(l [][]byte) {
		b, e := field.Join(l)
		if other, ok := seen[string(b)]; ok || e != api.OK {
			t.Errorf("%.20v and %.20v have the same bytes, %d", other, l, e)
		}
		seen[string(b)] = slices.Clone(l)
		for _, x := range elements {
			if len(l) < 3 {
				extend(append(l, x))
			}
		}
	}
	extend(nil)
	if n := len(elements); len(seen) != 1+n+n*n+n*n*n {
		t.Errorf("%d lists have %d strings of bytes", 1+n+n*n+n*n*n, len(seen))
	}
}

// P4.3: of every string that consists of fields, just these fields have it as their joined bytes.
func TestEveryStringIsOneList(t *testing.T) {
	check := func(b []byte) {
		l, e := field.All(b)
		if e != api.OK {
			return
		}
		if again, e := field.Join(l); !bytes.Equal(again, b) || e != api.OK {
			t.Errorf("%v is read as %v, which is joined to %v, %d", b, l, again, e)
		}
	}
	for size := range 3 {
		eachString(size, allBytes(), check)
	}
	for size := range 9 {
		eachString(size, []byte{0, 1, 2, 4, 128, 129}, check)
	}
}

// R3: Append and Join do not modify their arguments, not even the memory behind them, and share no memory with them or with other results.
func TestWrittenBytesShareNoMemory(t *testing.T) {
	for _, size := range []int{0, 1, 2, 50} {
		for _, n := range []int{0, 1, 300, 1024, 1025} {
			memory, x := bytes.Repeat([]byte{77}, 3000), bytes.Repeat([]byte{66}, n)
			l := [][]byte{memory[:size], x}
			b, _ := field.Append(memory[:size], x)
			c, _ := field.Append(memory[:size], x)
			d, _ := field.Join(l)
			f, _ := field.Join(l)
			keptC, keptF := bytes.Clone(c), bytes.Clone(f)
			clear(b[:cap(b)])
			clear(d[:cap(d)])
			if !bytes.Equal(memory, bytes.Repeat([]byte{77}, 3000)) || !bytes.Equal(x, bytes.Repeat([]byte{66}, n)) {
				t.Errorf("%d and %d bytes were modified", size, n)
			}
			clear(memory)
			clear(x)
			if !bytes.Equal(c, keptC) || !bytes.Equal(f, keptF) {
				t.Errorf("results of %d and %d bytes share memory", size, n)
			}
		}
	}
}

// R3: nor do Read and All, and no two fields of a list share memory.
func TestReadBytesShareNoMemory(t *testing.T) {
	want := [][]byte{{1, 2}, {3}, {}, {4, 5, 6}, sample(200)}
	b := writtenList(want)
	x, _, _ := field.Read(b)
	y, _, _ := field.Read(b)
	l, _ := field.All(b)
	m, _ := field.All(b)
	kept := cloneList(m)
	clear(x[:cap(x)])
	for i := range l {
		rest := cloneList(l[i+1:])
		clear(l[i][:cap(l[i])])
		_ = append(l[i], sample(300)...)
		if !sameList(l[i+1:], rest) {
			t.Errorf("field %d shares memory with a later one", i)
		}
	}
	if !bytes.Equal(b, writtenList(want)) {
		t.Errorf("the argument became %v", b)
	}
	clear(b)
	if !bytes.Equal(y, want[0]) || !sameList(m, kept) || !sameList(m, want) {
		t.Errorf("the results became %v and %v", y, m)
	}
}
