package base64_test

import (
	"bytes"
	standard "encoding/base64"
	"slices"
	"strconv"
	"strings"
	"testing"

	"macaroon/api"
	"macaroon/base64"
)

// strict is the encoding as the standard library has it: without padding, and with zero bits behind the last byte.
var strict = standard.RawURLEncoding.Strict()

// sample returns n bytes that differ from their neighbours.
func sample(n int) []byte {
	b := make([]byte, n)
	for i := range b {
		b[i] = byte(i*i + 7*i + i>>6 + 129)
	}
	return b
}

// alphabet is the characters in the order of their values.
var alphabet = ranges()

// ranges returns the characters of the ranges that P5.1 names.
func ranges() string {
	s := ""
	for _, r := range [][2]byte{{'A', 'Z'}, {'a', 'z'}, {'0', '9'}, {'-', '-'}, {'_', '_'}} {
		for c := r[0]; c <= r[1]; c++ {
			s += string(rune(c))
		}
	}
	return s
}

// bitsOf returns n as text of size binary digits.
func bitsOf(n, size int) string {
	s := strconv.FormatInt(int64(n), 2)
	return strings.Repeat("0", size-len(s)) + s
}

// numberOf returns the number with the binary digits s.
func numberOf(s string) int {
	n, err := strconv.ParseInt(s, 2, 64)
	if err != nil {
		panic(err)
	}
	return int(n)
}

// describedText returns what P5.1 says of b.
func describedText(b []byte) (string, api.Errno) {
	if len(b) > 4096 {
		return "", api.ErrLimit
	}
	all := ""
	for _, x := range b {
		all += bitsOf(int(x), 8)
	}
	s := ""
	for len(all) > 0 {
		group := all[:min(6, len(all))]
		all = all[len(group):]
		s += alphabet[numberOf((group + "00000")[:6]):][:1]
	}
	return s, api.OK
}

// describedBytes returns what P5.2 says of s.
func describedBytes(s string) ([]byte, api.Errno) {
	if len(s) > 5462 {
		return nil, api.ErrLimit
	}
	all := ""
	for _, c := range []byte(s) {
		value := strings.IndexByte(alphabet, c)
		if value < 0 {
			return nil, api.ErrSyntax
		}
		all += bitsOf(value, 6)
	}
	if len(s)%4 == 1 {
		return nil, api.ErrShort
	}
	end := len(all) / 8 * 8
	if strings.Contains(all[end:], "1") {
		return nil, api.ErrForm
	}
	var b []byte
	for i := 0; i < end; i += 8 {
		b = append(b, byte(numberOf(all[i:i+8])))
	}
	return b, api.OK
}

// eachString calls f for every string of size bytes that are among the given ones.
func eachString(size int, among []byte, f func(b []byte)) {
	b := make([]byte, size)
	var extend func(i int)
	extend = func(i int) {
		if i == size {
			f(b)
			return
		}
		for _, x := range among {
			b[i] = x
			extend(i + 1)
		}
	}
	extend(0)
}

func allBytes() []byte {
	var l []byte
	for x := range 256 {
		l = append(l, byte(x))
	}
	return l
}

// checkEncode ends the test at the first wrong text, since most mistakes make very many of them wrong.
func checkEncode(t *testing.T, b []byte, want string, wantE api.Errno) {
	t.Helper()
	if s, e := base64.Encode(b); s != want || e != wantE {
		t.Fatalf("Encode(%.20v) = %.40q, %d, want %.40q, %d", b, s, e, want, wantE)
	}
}

// checkDecode ends the test at the first wrong result, like checkEncode.
func checkDecode(t *testing.T, s string, want []byte, wantE api.Errno) {
	t.Helper()
	if b, e := base64.Decode(s); !bytes.Equal(b, want) || e != wantE {
		t.Fatalf("Decode(%.40q) = %.20v, %d, want %.20v, %d", s, b, e, want, wantE)
	}
}

// checkBoth checks that the text of b is s, and that the bytes of s are b.
func checkBoth(t *testing.T, b []byte, s string) {
	t.Helper()
	checkEncode(t, b, s, api.OK)
	checkDecode(t, s, b, api.OK)
}

// P5.1, P5.2: texts that are written out, the document's example among them.
func TestWrittenTexts(t *testing.T) {
	for _, c := range []struct {
		bytes []byte
		text  string
	}{
		{nil, ""},
		{[]byte{}, ""},
		{[]byte{0}, "AA"},
		{[]byte{0, 0}, "AAA"},
		{[]byte{0, 0, 0}, "AAAA"},
		{[]byte{0, 0, 0, 0}, "AAAAAA"},
		{[]byte{1}, "AQ"},
		{[]byte{2}, "Ag"},
		{[]byte{3}, "Aw"},
		{[]byte{4}, "BA"},
		{[]byte{128}, "gA"},
		{[]byte{255}, "_w"},
		{[]byte{251, 255}, "-_8"},
		{[]byte{255, 255}, "__8"},
		{[]byte{0, 1}, "AAE"},
		{[]byte{0, 15}, "AA8"},
		{[]byte{0, 16}, "ABA"},
		{[]byte{0, 0, 63}, "AAA_"},
		{[]byte{0, 0, 64}, "AABA"},
		{[]byte{1, 2, 3}, "AQID"},
		{[]byte{255, 255, 255}, "____"},
		{[]byte("Ann"), "QW5u"},
		{[]byte("light work."), "bGlnaHQgd29yay4"},
	} {
		checkBoth(t, c.bytes, c.text)
	}
}

// P5.1, P5.2: the characters, whose values are 0 to 63 in their order, at each of the four places of a group.
func TestCharactersInTheirOrder(t *testing.T) {
	if len(alphabet) != 64 {
		t.Fatalf("%d characters", len(alphabet))
	}
	for value, c := range alphabet {
		character := string(c)
		checkBoth(t, []byte{byte(value << 2), 0, 0}, character+"AAA")
		checkBoth(t, []byte{byte(value >> 4), byte(value << 4), 0}, "A"+character+"AA")
		checkBoth(t, []byte{0, byte(value >> 2), byte(value << 6)}, "AA"+character+"A")
		checkBoth(t, []byte{0, 0, byte(value)}, "AAA"+character)
	}
}

// P5.1: all strings of up to two bytes, and strings of bytes with few bits or many; the last group is extended with zero bits.
func TestTextsOfShortStrings(t *testing.T) {
	check := func(b []byte) {
		want, e := describedText(b)
		if want != strict.EncodeToString(b) {
			t.Fatalf("the standard library has another text of %v than %q", b, want)
		}
		checkEncode(t, b, want, e)
	}
	for size := range 3 {
		eachString(size, allBytes(), check)
	}
	for size := range 6 {
		eachString(size, []byte{0, 1, 64, 128, 170, 255}, check)
	}
}

// P5.1, P5.2: there is no padding, and 3 bytes have 4 characters, up to 4096 bytes with 5462 characters.
func TestTextsOfAllLengths(t *testing.T) {
	for n := range 4097 {
		b := sample(n)
		s := strict.EncodeToString(b)
		if len(s) != (4*n+2)/3 || strings.Contains(s, "=") {
			t.Fatalf("%d bytes have %d characters", n, len(s))
		}
		checkBoth(t, b, s)
	}
	for _, n := range []int{4094, 4095, 4096} {
		for _, x := range []byte{0, 1, 128, 255} {
			b := bytes.Repeat([]byte{x}, n)
			checkBoth(t, b, strict.EncodeToString(b))
		}
	}
}

// P5.1: more than MaxBundle bytes have no text.
func TestEncodeAboveTheLimit(t *testing.T) {
	for _, n := range []int{4097, 4098, 4099, 4100, 5462, 5463, 8192, 1 << 16, 1<<16 + 1, 1 << 20} {
		checkEncode(t, make([]byte, n), "", api.ErrLimit)
		checkEncode(t, sample(n), "", api.ErrLimit)
	}
}

// P5.2: each error of Decode, and that the earlier one in the list is returned where more than one applies.
func TestErrorsOfDecode(t *testing.T) {
	long := func(n int, end string) string { return strings.Repeat("A", n-len(end)) + end }
	for _, c := range []struct {
		text string
		want api.Errno
	}{
		{long(5462, ""), api.OK},
		{long(5463, ""), api.ErrLimit},
		{long(5464, ""), api.ErrLimit},
		{long(5464, "B"), api.ErrLimit},
		{long(5465, ""), api.ErrLimit},
		{long(5465, "!"), api.ErrLimit},
		{long(5466, "B"), api.ErrLimit},
		{strings.Repeat("!", 5463), api.ErrLimit},
		{long(1<<16, ""), api.ErrLimit},
		{long(1<<16+2, ""), api.ErrLimit},
		{strings.Repeat("!", 5462), api.ErrSyntax},
		{long(5462, "!"), api.ErrSyntax},
		{long(5462, "B"), api.ErrForm},
		{long(5461, ""), api.ErrShort},
		{long(5461, "B"), api.ErrShort},
		{long(5461, "!"), api.ErrSyntax},
		{"!", api.ErrSyntax},
		{"!A", api.ErrSyntax},
		{"A!", api.ErrSyntax},
		{"AB!", api.ErrSyntax},
		{"B!", api.ErrSyntax},
		{"AAAA!", api.ErrSyntax},
		{"!AAAA", api.ErrSyntax},
		{"Zg==", api.ErrSyntax},
		{"Zg=", api.ErrSyntax},
		{"Zm8=", api.ErrSyntax},
		{"=", api.ErrSyntax},
		{"+_8", api.ErrSyntax},
		{"-/8", api.ErrSyntax},
		{"Zm9v\n", api.ErrSyntax},
		{"Zm9v\r\n", api.ErrSyntax},
		{"Zm\n9v", api.ErrSyntax},
		{" Zm9v", api.ErrSyntax},
		{"Zm9v ", api.ErrSyntax},
		{"Zm9\x00", api.ErrSyntax},
		{"A", api.ErrShort},
		{"B", api.ErrShort},
		{"_", api.ErrShort},
		{"AAAAA", api.ErrShort},
		{"AAAAB", api.ErrShort},
		{"Zm9vY", api.ErrShort},
		{"AB", api.ErrForm},
		{"A_", api.ErrForm},
		{"AAB", api.ErrForm},
		{"-_9", api.ErrForm},
		{"Zm9vYh", api.ErrForm},
		{"Zm9vYmF", api.ErrForm},
	} {
		if b, e := base64.Decode(c.text); e != c.want || e != api.OK && len(b) != 0 {
			t.Errorf("Decode of %d bytes, %.20q: %.20v, %d, want %d", len(c.text), c.text, b, e, c.want)
		}
	}
}

// P5.2: what is counted of texts that are not ASCII is their bytes, not their runes.
func TestTextsThatAreNotASCII(t *testing.T) {
	for _, c := range []struct {
		text string
		want api.Errno
	}{
		{strings.Repeat("é", 2731), api.ErrSyntax},
		{strings.Repeat("é", 2732), api.ErrLimit},
		{strings.Repeat("\xff", 5462), api.ErrSyntax},
		{strings.Repeat("\xff", 5463), api.ErrLimit},
		{"é", api.ErrSyntax},
		{"AAAé", api.ErrSyntax},
		{"ŁŁŁŁ", api.ErrSyntax},
		{"ＡＡＡＡ", api.ErrSyntax},
		{"–_8", api.ErrSyntax},
		{"\ufeffAAAA", api.ErrSyntax},
	} {
		checkDecode(t, c.text, nil, c.want)
	}
}

// P5.2: a byte that is none of the characters is found wherever it stands, whatever the length.
func TestWrongBytesAnywhere(t *testing.T) {
	for x := range 256 {
		if strings.IndexByte(alphabet, byte(x)) >= 0 {
			continue
		}
		for size := 1; size <= 9; size++ {
			for i := range size {
				b := bytes.Repeat([]byte{'B'}, size)
				b[i] = byte(x)
				checkDecode(t, string(b), nil, api.ErrSyntax)
			}
		}
	}
	for i := range 5462 {
		b := bytes.Repeat([]byte{'z'}, 5462)
		b[i] = '='
		checkDecode(t, string(b), nil, api.ErrSyntax)
	}
}

// P5.2: the texts of all lengths: with one character too many, and with a bit behind the last byte.
func TestDecodeOfAllLengths(t *testing.T) {
	for n := range 5470 {
		s := strings.Repeat("A", n)
		want := api.OK
		if n > 5462 {
			want = api.ErrLimit
		} else if n%4 == 1 {
			want = api.ErrShort
		}
		if b, e := base64.Decode(s); e != want || e == api.OK && !bytes.Equal(b, make([]byte, 3*n/4)) {
			t.Errorf("Decode of %d characters A: %d bytes, %d, want %d", n, len(b), e, want)
		}
		if n%4 < 2 || n > 5462 {
			continue
		}
		for _, last := range []string{"B", "C", "D"} {
			checkDecode(t, s[1:]+last, nil, api.ErrForm)
		}
	}
}

// P5.2: all strings of up to two bytes, all texts of three characters, and strings of up to seven bytes at which something changes.
func TestDecodeOfAllStrings(t *testing.T) {
	check := func(b []byte) {
		want, e := describedBytes(string(b))
		other, err := strict.DecodeString(string(b))
		// The standard library skips the ends of lines.
		if (err == nil) != (e == api.OK) && !bytes.ContainsAny(b, "\r\n") || e == api.OK && !bytes.Equal(other, want) {
			t.Fatalf("the standard library has the bytes %v of %q", other, b)
		}
		checkDecode(t, string(b), want, e)
	}
	for size := range 3 {
		eachString(size, allBytes(), check)
	}
	eachString(3, []byte(alphabet), check)
	for size := range 6 {
		eachString(size, []byte("AZaz09-_QgP@[`{/:=,.^\x80"), func(b []byte) {
			if size < 5 || b[0] == 'A' && b[1] == '_' {
				check(b)
			}
		})
	}
	for size := range 8 {
		eachString(size, []byte("AQ_/"), check)
	}
}

// P5.3: every text is that of the bytes that it is decoded to, so that no bytes have two.
func TestBytesHaveOneText(t *testing.T) {
	check := func(s []byte) int {
		b, e := base64.Decode(string(s))
		if e != api.OK {
			return 0
		}
		checkEncode(t, b, string(s), api.OK)
		return 1
	}
	for size, want := range []int{1, 0, 256, 65536} {
		count := 0
		eachString(size, []byte(alphabet), func(s []byte) { count += check(s) })
		if count != want {
			t.Errorf("%d texts have %d characters, want %d", count, size, want)
		}
	}
	for size := 4; size <= 7; size++ {
		eachString(size, []byte("AQgw_8"), func(s []byte) { check(s) })
	}
}

// P5.3: all bytes are those of their text, and no two have the same one.
func TestTextsHaveOneString(t *testing.T) {
	seen := map[string]string{}
	check := func(b []byte) {
		s, _ := base64.Encode(b)
		if other, ok := seen[s]; ok && other != string(b) {
			t.Errorf("%v and %v have the text %q", b, []byte(other), s)
		}
		seen[s] = string(b)
		checkDecode(t, s, b, api.OK)
	}
	for size := range 3 {
		eachString(size, allBytes(), check)
	}
	for size := 3; size <= 5; size++ {
		eachString(size, []byte{0, 1, 3, 4, 64, 128, 255}, check)
	}
	for n := range 500 {
		check(make([]byte, n))
		check(sample(n))
	}
}

// R3: arguments are not modified, not even the memory behind them, and results share no memory with them or with one another.
func TestNoSharedMemory(t *testing.T) {
	for _, n := range []int{0, 1, 2, 3, 100, 4096, 4097} {
		memory := sample(n + 50)
		kept := slices.Clone(memory)
		s, _ := base64.Encode(memory[:n])
		text := strings.Clone(s)
		if !bytes.Equal(memory, kept) {
			t.Errorf("Encode modified its argument of %d bytes", n)
		}
		x, _ := base64.Decode(text)
		y, _ := base64.Decode(text)
		want := slices.Clone(y)
		clear(memory)
		clear(x[:cap(x)])
		if s != text || !bytes.Equal(y, want) {
			t.Errorf("the results for %d bytes share memory", n)
		}
		checkDecode(t, text, want, api.OK)
	}
}
