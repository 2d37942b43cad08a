package predicate_test

import (
	"bytes"
	"encoding/binary"
	"math"
	"regexp"
	"slices"
	"strconv"
	"strings"
	"testing"

	"macaroon/api"
	"macaroon/field"
	"macaroon/predicate"
	"macaroon/varint"
)

var words = []string{"", "zone", "line", "days", "time", "daily", "holder", "rides"}

var nameForm = regexp.MustCompile(`^[a-z]{1,16}$`)

// numberForm is a number in a text, without its minus sign.
const numberForm = `(?:0|[1-9][0-9]*)`

var (
	maskText = regexp.MustCompile(`^(?:zone|line|days) (` + numberForm + `(?:,` + numberForm + `)*)$`)
	spanText = regexp.MustCompile(`^(?:time|daily) (` + numberForm + `)-(` + numberForm + `)$`)
	nameText = regexp.MustCompile(`^holder ([a-z]{1,16})$`)
	rideText = regexp.MustCompile(`^rides (` + numberForm + `)$`)
)

// described reports whether p is valid as P6.1 says.
func described(p api.Predicate) bool {
	switch p.Kind {
	case 1, 2, 3:
		bits := []int{64, 32, 7}[p.Kind-1]
		for bit := bits; bit < 64; bit++ {
			if p.Mask>>bit&1 == 1 {
				return false
			}
		}
		return p.Mask != 0 && p.From == 0 && p.To == 0 && p.Name == "" && p.Number == 0
	case 4:
		return 0 <= p.From && p.From <= p.To && p.To <= 67108864 && p.Mask == 0 && p.Name == "" && p.Number == 0
	case 5:
		return 0 <= p.From && p.From <= 1439 && 0 <= p.To && p.To <= 1439 && p.Mask == 0 && p.Name == "" && p.Number == 0
	case 6:
		return nameForm.MatchString(p.Name) && p.Mask == 0 && p.From == 0 && p.To == 0 && p.Number == 0
	case 7:
		return 0 <= p.Number && p.Number <= 1000000 && p.Mask == 0 && p.From == 0 && p.To == 0 && p.Name == ""
	}
	return false
}

// describedText returns what P6.2 says of the text of p.
func describedText(p api.Predicate) (string, api.Errno) {
	if !described(p) {
		return "", api.ErrForm
	}
	text := ""
	switch p.Kind {
	case 1, 2, 3:
		for bit := range 64 {
			if p.Mask&(1<<bit) != 0 {
				text += "," + strconv.Itoa(bit)
			}
		}
		text = text[1:]
	case 4, 5:
		text = strconv.Itoa(p.From) + "-" + strconv.Itoa(p.To)
	case 6:
		text = p.Name
	case 7:
		text = strconv.Itoa(p.Number)
	}
	return words[p.Kind] + " " + text, api.OK
}

// numberOf returns the number with the digits s, or a number that no predicate has.
func numberOf(s string) int {
	n, err := strconv.Atoi(s)
	if err != nil {
		return math.MaxInt
	}
	return n
}

// describedParse returns what P6.2 says of the predicate with the text s.
func describedParse(s string) (api.Predicate, api.Errno) {
	wrong := api.Predicate{}
	p := api.Predicate{Kind: slices.Index(words, strings.SplitN(s, " ", 2)[0])}
	if m := maskText.FindStringSubmatch(s); m != nil {
		last := -1
		for _, digits := range strings.Split(m[1], ",") {
			n := numberOf(digits)
			if n <= last || n > 63 {
				return wrong, api.ErrSyntax
			}
			p.Mask += 1 << n
			last = n
		}
	} else if m := spanText.FindStringSubmatch(s); m != nil {
		p.From, p.To = numberOf(m[1]), numberOf(m[2])
	} else if m := nameText.FindStringSubmatch(s); m != nil {
		p.Name = m[1]
	} else if m := rideText.FindStringSubmatch(s); m != nil {
		p.Number = numberOf(m[1])
	} else {
		return wrong, api.ErrSyntax
	}
	if !described(p) {
		return wrong, api.ErrSyntax
	}
	return p, api.OK
}

// describedBytes returns what P6.3 says of the bytes of p.
func describedBytes(p api.Predicate) ([]byte, api.Errno) {
	if !described(p) {
		return nil, api.ErrForm
	}
	b := []byte{byte(p.Kind)}
	switch p.Kind {
	case 1, 2, 3:
		b = binary.BigEndian.AppendUint64(b, p.Mask)
	case 4, 5:
		b = binary.AppendUvarint(binary.AppendUvarint(b, uint64(p.From)), uint64(p.To))
	case 6:
		b = append(append(b, byte(len(p.Name))), p.Name...)
	case 7:
		b = binary.AppendUvarint(b, uint64(p.Number))
	}
	return b, api.OK
}

// describedDecode returns what P6.3 says of the predicate at the beginning of b.
func describedDecode(b []byte) (api.Predicate, int, api.Errno) {
	kind, used, e := varint.Read(b)
	if e != api.OK {
		return api.Predicate{}, 0, e
	}
	p := api.Predicate{Kind: kind}
	switch kind {
	case 1, 2, 3:
		if len(b) < used+8 {
			return api.Predicate{}, 0, api.ErrShort
		}
		p.Mask = binary.BigEndian.Uint64(b[used:])
		used += 8
	case 4, 5:
		from, size, e := varint.Read(b[used:])
		if e != api.OK {
			return api.Predicate{}, 0, e
		}
		used += size
		to, size, e := varint.Read(b[used:])
		if e != api.OK {
			return api.Predicate{}, 0, e
		}
		used += size
		p.From, p.To = from, to
	case 6:
		x, size, e := field.Read(b[used:])
		if e != api.OK {
			return api.Predicate{}, 0, e
		}
		used += size
		p.Name = string(x)
	case 7:
		n, size, e := varint.Read(b[used:])
		if e != api.OK {
			return api.Predicate{}, 0, e
		}
		used += size
		p.Number = n
	default:
		return api.Predicate{}, 0, api.ErrKind
	}
	if !described(p) {
		return api.Predicate{}, 0, api.ErrForm
	}
	return p, used, api.OK
}

// eachString calls f for every string of size bytes that are among the given ones.
func eachString(size int, among []byte, f func(b []byte)) {
	b := make([]byte, size)
	var extend func(i int)
	extend = func(i int) {
		if i == size {
			f(b)
			return
		}
		for _, x := range among {
			b[i] = x
			extend(i + 1)
		}
	}
	extend(0)
}

// eachChange calls f for b, with each byte left out, with each one replaced and with one inserted at each place, from among the given ones.
func eachChange(b []byte, among []byte, f func(b []byte)) {
	f(b)
	for i := range len(b) + 1 {
		for _, x := range among {
			f(slices.Insert(bytes.Clone(b), i, x))
			if i < len(b) {
				f(slices.Replace(bytes.Clone(b), i, i+1, x))
			}
		}
		if i < len(b) {
			f(slices.Delete(bytes.Clone(b), i, i+1))
		}
	}
}

func allBytes() []byte {
	var l []byte
	for x := range 256 {
		l = append(l, byte(x))
	}
	return l
}

// masks returns all masks of one and of two bits, all of up to seven low bits, and some of many.
func masks() []uint64 {
	l := []uint64{math.MaxUint64, math.MaxUint64 - 1, math.MaxUint64 >> 1, math.MaxUint32, math.MaxUint32 >> 1, 0x0123456789abcdef, 0xaaaaaaaaaaaaaaaa, 0x55555555}
	for i := range 64 {
		for j := range i + 1 {
			l = append(l, 1<<i|1<<j)
		}
	}
	for low := range uint64(128) {
		l = append(l, low)
	}
	slices.Sort(l)
	return slices.Compact(l)[1:]
}

// numbers returns small numbers and those around the limits of the kinds.
func numbers() []int {
	l := []int{-1440, -100, math.MinInt, math.MinInt + 1, math.MaxInt, 1 << 32, 1<<32 + 5, 1 << 48, 1<<48 + 1, 1 << 62}
	for _, n := range []int{0, 7, 10, 32, 64, 100, 127, 300, 1380, 1439, 10000, 16383, 1000000, 2097151, 67108864} {
		l = append(l, n-1, n, n+1)
	}
	slices.Sort(l)
	return slices.Compact(l)
}

// names returns names, and strings that are none.
func names() []string {
	l := []string{"", "ann", "bob", "zone", "A", "Ann", "anN", "a1", "1", "a b", " a", "a ", "a-b", "a,b", "a\n", "\x00", "a\x00", "`", "{", "@", "[", "é", "\xe9", "añb", "\xff", "ａ", "ſ"}
	for n := 1; n <= 18; n++ {
		l = append(l, "abcdefghijklmnopqrstuvwxyz"[n:][:n%8+1], strings.Repeat("a", n), strings.Repeat("z", n))
	}
	for c := 'a'; c <= 'z'; c++ {
		l = append(l, string(c), "x"+string(c)+"y")
	}
	l = append(l, strings.Repeat("a", 256), strings.Repeat("a", 257), strings.Repeat("m", 1024), strings.Repeat("m", 1025))
	return l
}

// candidates returns predicates of all kinds that have only their own fields; most of them are valid.
func candidates() []api.Predicate {
	var l []api.Predicate
	for _, mask := range append(masks(), 0) {
		for kind := api.PredZone; kind <= api.PredDays; kind++ {
			l = append(l, api.Predicate{Kind: kind, Mask: mask})
		}
	}
	for _, m := range numbers() {
		for _, n := range numbers() {
			l = append(l, api.Predicate{Kind: api.PredTime, From: m, To: n}, api.Predicate{Kind: api.PredDaily, From: m, To: n})
		}
		l = append(l, api.Predicate{Kind: api.PredRides, Number: m})
	}
	for _, name := range names() {
		l = append(l, api.Predicate{Kind: api.PredHolder, Name: name})
	}
	return l
}

// validOnes returns the candidates that are valid.
func validOnes() []api.Predicate {
	return slices.DeleteFunc(candidates(), func(p api.Predicate) bool { return !described(p) })
}

// check checks what Valid, Format and Encode say of p. Like the other checks it ends the test at the first wrong result, since most mistakes make very many of them wrong.
func check(t *testing.T, p api.Predicate) {
	t.Helper()
	if ok := predicate.Valid(p); ok != described(p) {
		t.Fatalf("Valid(%.40v) = %t", p, ok)
	}
	s, e := predicate.Format(p)
	if want, wantE := describedText(p); s != want || e != wantE {
		t.Fatalf("Format(%.40v) = %q, %d, want %q, %d", p, s, e, want, wantE)
	}
	b, e := predicate.Encode(p)
	if want, wantE := describedBytes(p); !bytes.Equal(b, want) || e != wantE {
		t.Fatalf("Encode(%.40v) = %v, %d, want %v, %d", p, b, e, want, wantE)
	}
}

func checkParse(t *testing.T, s string) {
	t.Helper()
	p, e := predicate.Parse(s)
	if want, wantE := describedParse(s); p != want || e != wantE {
		t.Fatalf("Parse(%.60q) = %v, %d, want %v, %d", s, p, e, want, wantE)
	}
}

func checkDecode(t *testing.T, b []byte) {
	t.Helper()
	p, used, e := predicate.Decode(b)
	if want, wantUsed, wantE := describedDecode(b); p != want || used != wantUsed || e != wantE {
		t.Fatalf("Decode(%.40v) = %v, %d, %d, want %v, %d, %d", b, p, used, e, want, wantUsed, wantE)
	}
}

// P6.1, P6.2, P6.3: predicates that are written out with their texts and bytes, the document's examples among them.
func TestWrittenPredicates(t *testing.T) {
	for _, c := range []struct {
		p     api.Predicate
		text  string
		bytes []byte
	}{
		{api.Predicate{Kind: api.PredZone, Mask: 38}, "zone 1,2,5", []byte{1, 0, 0, 0, 0, 0, 0, 0, 38}},
		{api.Predicate{Kind: api.PredZone, Mask: 1}, "zone 0", []byte{1, 0, 0, 0, 0, 0, 0, 0, 1}},
		{api.Predicate{Kind: api.PredZone, Mask: 1 << 63}, "zone 63", []byte{1, 128, 0, 0, 0, 0, 0, 0, 0}},
		{api.Predicate{Kind: api.PredZone, Mask: 0x0102040810204080}, "zone 7,14,21,28,35,42,49,56", []byte{1, 1, 2, 4, 8, 16, 32, 64, 128}},
		{api.Predicate{Kind: api.PredLine, Mask: 8}, "line 3", []byte{2, 0, 0, 0, 0, 0, 0, 0, 8}},
		{api.Predicate{Kind: api.PredLine, Mask: 1<<31 | 1<<9}, "line 9,31", []byte{2, 0, 0, 0, 0, 128, 0, 2, 0}},
		{api.Predicate{Kind: api.PredDays, Mask: 65}, "days 0,6", []byte{3, 0, 0, 0, 0, 0, 0, 0, 65}},
		{api.Predicate{Kind: api.PredDays, Mask: 127}, "days 0,1,2,3,4,5,6", []byte{3, 0, 0, 0, 0, 0, 0, 0, 127}},
		{api.Predicate{Kind: api.PredTime, From: 100, To: 200}, "time 100-200", []byte{4, 100, 200, 1}},
		{api.Predicate{Kind: api.PredTime}, "time 0-0", []byte{4, 0, 0}},
		{api.Predicate{Kind: api.PredTime, From: 67108864, To: 67108864}, "time 67108864-67108864", []byte{4, 128, 128, 128, 32, 128, 128, 128, 32}},
		{api.Predicate{Kind: api.PredDaily, From: 1380, To: 300}, "daily 1380-300", []byte{5, 228, 10, 172, 2}},
		{api.Predicate{Kind: api.PredDaily}, "daily 0-0", []byte{5, 0, 0}},
		{api.Predicate{Kind: api.PredDaily, From: 1439, To: 1439}, "daily 1439-1439", []byte{5, 159, 11, 159, 11}},
		{api.Predicate{Kind: api.PredHolder, Name: "ann"}, "holder ann", []byte{6, 3, 97, 110, 110}},
		{api.Predicate{Kind: api.PredHolder, Name: "holder"}, "holder holder", []byte{6, 6, 104, 111, 108, 100, 101, 114}},
		{api.Predicate{Kind: api.PredRides, Number: 10}, "rides 10", []byte{7, 10}},
		{api.Predicate{Kind: api.PredRides, Number: 300}, "rides 300", []byte{7, 172, 2}},
		{api.Predicate{Kind: api.PredRides}, "rides 0", []byte{7, 0}},
		{api.Predicate{Kind: api.PredRides, Number: 1000000}, "rides 1000000", []byte{7, 192, 132, 61}},
	} {
		if !predicate.Valid(c.p) {
			t.Errorf("%v is not valid", c.p)
		}
		if s, e := predicate.Format(c.p); s != c.text || e != api.OK {
			t.Errorf("Format(%v) = %q, %d", c.p, s, e)
		}
		if p, e := predicate.Parse(c.text); p != c.p || e != api.OK {
			t.Errorf("Parse(%q) = %v, %d", c.text, p, e)
		}
		if b, e := predicate.Encode(c.p); !bytes.Equal(b, c.bytes) || e != api.OK {
			t.Errorf("Encode(%v) = %v, %d", c.p, b, e)
		}
		if p, used, e := predicate.Decode(c.bytes); p != c.p || used != len(c.bytes) || e != api.OK {
			t.Errorf("Decode(%v) = %v, %d, %d", c.bytes, p, used, e)
		}
	}
}

// P6.1, P6.2, P6.3: predicates that have only the fields of their kind, inside and outside of the limits.
func TestCandidates(t *testing.T) {
	for _, p := range candidates() {
		check(t, p)
	}
	for m := range 1440 {
		for _, n := range []int{0, 1, m - 1, m, m + 1, 1439} {
			check(t, api.Predicate{Kind: api.PredDaily, From: m, To: n})
		}
		check(t, api.Predicate{Kind: api.PredRides, Number: m})
	}
}

// P6.1, P6.2, P6.3: each field that the kind does not have must be zero, and unknown kinds have no fields at all.
func TestFieldsOfOtherKinds(t *testing.T) {
	kinds := []int{math.MinInt, -7, -1, 0, 1, 2, 3, 4, 5, 6, 7, 8, 9, 255, 256, 257, 263, 1<<32 + 1, 1<<48 + 7, math.MaxInt}
	for _, kind := range kinds {
		for _, mask := range []uint64{0, 1, 127, 128, 1 << 31, 1 << 32, 1 << 63} {
			for _, from := range []int{-1, 0, 1, 1439} {
				for _, to := range []int{-1, 0, 1, 1440} {
					for _, name := range []string{"", "a", "ann", "A"} {
						for _, number := range []int{-1, 0, 1, 1000001} {
							check(t, api.Predicate{Kind: kind, Mask: mask, From: from, To: to, Name: name, Number: number})
						}
					}
				}
			}
		}
	}
}

// P6.2: texts of valid predicates are parsed.
func TestParseOfTexts(t *testing.T) {
	for _, p := range validOnes() {
		s, _ := describedText(p)
		if q, e := predicate.Parse(s); q != p || e != api.OK {
			t.Fatalf("Parse(%q) = %v, %d, want %v", s, q, e, p)
		}
	}
}

// P6.2: texts that are none, each with what is wrong with it.
func TestTextsOfNoPredicate(t *testing.T) {
	for what, texts := range map[string][]string{
		"no word":                  {"", " ", " 1", "1", ",", "-", "1-2", "  zone 1"},
		"a word alone":             {"zone", "line", "days", "time", "daily", "holder", "rides"},
		"nothing behind the blank": {"zone ", "line ", "days ", "time ", "daily ", "holder ", "rides "},
		"an unknown word":          {"Zone 1", "ZONE 1", "zones 1", "zon 1", "day 1", "hour 5", "ride 5", "time-1 2", "zone1 1", "none 1", "\x00zone 1"},
		"another white space":      {"zone\t1", "zone\n1", "zone\u00a01", "holder\tann", "rides\r1"},
		"blanks":                   {"zone  1", " zone 1", "zone 1 ", "zone 1, 2", "zone 1 ,2", "time 1 -2", "time 1- 2", "time 1-2 ", "daily  1-2", "holder  ann", "holder ann ", "rides  1", "rides 1 "},
		"line feeds":               {"zone 1\n", "time 1-2\n", "holder ann\n", "rides 1\n", "\nzone 1"},
		"more behind the text":     {"zone 1;", "zone 1 2", "time 1-2-3", "time 1-2,3", "daily 1-2,", "holder ann bob", "holder ann,bob", "rides 1,2", "rides 1-2", "rides 1 1"},
		"numbers not ascending":    {"zone 2,1", "zone 1,1", "zone 0,0", "zone 1,2,2", "zone 1,3,2", "zone 5,0", "line 31,0", "days 6,6"},
		"numbers missing":          {"zone ,", "zone 1,", "zone ,1", "zone 1,,2", "line ,,", "time -", "time 1-", "time -1", "time 1", "daily 1-", "daily -1", "daily 1", "time 1,2", "daily 1,2"},
		"leading zeros":            {"zone 00", "zone 01", "zone 1,02", "line 03", "days 00", "time 00-1", "time 0-01", "time 01-2", "daily 0-00", "rides 00", "rides 010"},
		"signs":                    {"zone +1", "zone -1", "zone -0", "zone 1,+2", "time +1-2", "time 1-+2", "time -1-2", "time -0-2", "time 1--2", "time 0--0", "daily -1-2", "rides +1", "rides -1", "rides -0", "rides --1"},
		"other forms of numbers":   {"zone 0x1", "zone 1_0", "zone 1e1", "zone 1.0", "zone \u0661", "zone \uff11", "rides 0b1", "rides 1_000", "rides 1e3", "rides 1.", "time 0x1-2", "rides a"},
		"numbers out of range":     {"zone 64", "zone 0,64", "zone 65", "zone 128", "line 32", "line 31,32", "line 63", "days 7", "days 0,7", "days 63", "time 0-67108865", "time 67108865-67108865", "daily 0-1440", "daily 1440-0", "daily 1440-1440", "rides 1000001"},
		"numbers that wrap round":  {"zone 256", "zone 4294967296", "zone 18446744073709551616", "zone 18446744073709551617", "time 0-4294967296", "time 0-18446744073709551616", "daily 4294967296-0", "rides 4294967296", "rides 18446744073709551616", "rides 9223372036854775807", "rides 9223372036854775808", "rides -9223372036854775808", "rides " + strings.Repeat("9", 5000)},
		"From greater than To":     {"time 5-4", "time 1-0", "time 67108864-67108863"},
		"no name":                  {"holder A", "holder Ann", "holder anN", "holder 1", "holder a1", "holder a-b", "holder abcdefghijklmnopq", "holder " + strings.Repeat("a", 272), "holder é", "holder \xe9", "holder a\x00", "holder `", "holder {"},
		"the form of another kind": {"zone ann", "line 1-2", "days ann", "time ann", "time 5", "daily 5", "holder 5", "holder 1-2", "rides ann", "zone 1-2", "zone 60-63"},
	} {
		for _, s := range texts {
			if p, e := predicate.Parse(s); p != (api.Predicate{}) || e != api.ErrSyntax {
				t.Errorf("%s: Parse(%.60q) = %v, %d", what, s, p, e)
			}
		}
	}
}

// P6.2: texts with one byte changed, left out or inserted.
func TestParseOfChangedTexts(t *testing.T) {
	for _, text := range []string{"zone 0", "zone 1,2,5", "zone 9,10,63", "line 3", "line 0,31", "days 0,6", "days 1,2,3,4,5", "time 0-0", "time 100-200", "time 0-67108864", "time 67108863-67108864", "daily 1380-300", "daily 0-1439", "daily 1439-0", "holder a", "holder ann", "holder abcdefghijklmnop", "rides 0", "rides 10", "rides 1000000", "rides 999999"} {
		eachChange([]byte(text), []byte("0123456789,-+ ;az{`AZ\n\x00\xe9"), func(b []byte) { checkParse(t, string(b)) })
	}
	for _, word := range words {
		for size := range 6 {
			eachString(size, []byte("01-,6 a"), func(b []byte) { checkParse(t, word+" "+string(b)) })
		}
	}
}

// P6.2: every number of bits and of minutes is parsed, or not, as the table says.
func TestParseOfNumbers(t *testing.T) {
	for _, n := range numbers() {
		digits := strconv.Itoa(n)
		for _, word := range words {
			for _, text := range []string{digits, digits + ",63", "0," + digits, digits + "-" + digits, "0-" + digits, digits + "-0", digits + "-1439"} {
				checkParse(t, word+" "+text)
			}
		}
	}
}

// P6.3: each error of Decode, and that the first one in reading order is returned where more than one applies.
func TestErrorsOfDecode(t *testing.T) {
	long := bytes.Repeat([]byte{'a'}, 1100)
	for _, c := range []struct {
		name string
		b    []byte
		want api.Errno
	}{
		{"no bytes", nil, api.ErrShort},
		{"a Kind that ends too early", []byte{129}, api.ErrShort},
		{"a Kind that is not canonical", []byte{129, 0, 0, 0, 0, 0, 0, 0, 0, 1}, api.ErrForm},
		{"a Kind above MaxNumber", []byte{129, 128, 128, 128, 128, 128, 64}, api.ErrRange},
		{"the Kind 0", []byte{0}, api.ErrKind},
		{"the Kind 0, with bytes behind it", []byte{0, 0, 0, 0, 0, 0, 0, 0, 1}, api.ErrKind},
		{"the Kind 8", []byte{8}, api.ErrKind},
		{"the Kind 8, with bytes behind it", []byte{8, 1, 97}, api.ErrKind},
		{"the Kind 256 + 7", []byte{135, 2, 1}, api.ErrKind},
		{"the Kind MaxNumber", []byte{128, 128, 128, 128, 128, 128, 64}, api.ErrKind},
		{"no bytes of a Mask", []byte{1}, api.ErrShort},
		{"seven bytes of a Mask", []byte{1, 0, 0, 0, 0, 0, 0, 1}, api.ErrShort},
		{"seven zero bytes of a Mask", []byte{2, 0, 0, 0, 0, 0, 0, 0}, api.ErrShort},
		{"seven bytes of a Mask with wrong bits", []byte{3, 255, 255, 255, 255, 255, 255, 255}, api.ErrShort},
		{"a zone Mask 0", []byte{1, 0, 0, 0, 0, 0, 0, 0, 0}, api.ErrForm},
		{"a line Mask 0", []byte{2, 0, 0, 0, 0, 0, 0, 0, 0}, api.ErrForm},
		{"a line Mask with the bit 32", []byte{2, 0, 0, 0, 1, 0, 0, 0, 1}, api.ErrForm},
		{"a line Mask with the bit 63", []byte{2, 128, 0, 0, 0, 0, 0, 0, 1}, api.ErrForm},
		{"a days Mask 0", []byte{3, 0, 0, 0, 0, 0, 0, 0, 0, 1}, api.ErrForm},
		{"a days Mask with the bit 7", []byte{3, 0, 0, 0, 0, 0, 0, 0, 128}, api.ErrForm},
		{"no From", []byte{4}, api.ErrShort},
		{"a From that ends too early", []byte{4, 133}, api.ErrShort},
		{"a From that is not canonical", []byte{4, 128, 0}, api.ErrForm},
		{"a From that is not canonical, and a To that ends too early", []byte{4, 128, 0, 128}, api.ErrForm},
		{"a From above MaxNumber, and a To that is not canonical", []byte{4, 129, 128, 128, 128, 128, 128, 64, 128, 0}, api.ErrRange},
		{"no To", []byte{4, 5}, api.ErrShort},
		{"a From that is too great, and no To", []byte{5, 160, 11}, api.ErrShort},
		{"a From that is too great, and a To above MaxNumber", []byte{5, 160, 11, 129, 128, 128, 128, 128, 128, 64}, api.ErrRange},
		{"a To that is not canonical", []byte{4, 5, 133, 0}, api.ErrForm},
		{"a To below From", []byte{4, 5, 4}, api.ErrForm},
		{"a To above MaxMinute", []byte{4, 5, 129, 128, 128, 32}, api.ErrForm},
		{"a To of MaxNumber", []byte{4, 5, 128, 128, 128, 128, 128, 128, 64}, api.ErrForm},
		{"a daily From of Day", []byte{5, 160, 11, 0}, api.ErrForm},
		{"a daily To of Day", []byte{5, 0, 160, 11}, api.ErrForm},
		{"no name", []byte{6}, api.ErrShort},
		{"a name that ends too early", []byte{6, 2, 'a'}, api.ErrShort},
		{"a wrong name that ends too early", []byte{6, 2, 'A'}, api.ErrShort},
		{"a length of a name that is not canonical", []byte{6, 129, 0, 'a'}, api.ErrForm},
		{"a length of a name above MaxNumber", []byte{6, 129, 128, 128, 128, 128, 128, 64}, api.ErrRange},
		{"a length of a name above MaxField", append([]byte{6, 129, 8}, long...), api.ErrLimit},
		{"a length of a name above MaxField, with no bytes behind it", []byte{6, 129, 8}, api.ErrLimit},
		{"a name of MaxField letters", append([]byte{6, 128, 8}, long...), api.ErrForm},
		{"a name of 17 letters", append([]byte{6, 17}, long...), api.ErrForm},
		{"an empty name", []byte{6, 0, 'a'}, api.ErrForm},
		{"a name with a capital letter", []byte{6, 1, 'A'}, api.ErrForm},
		{"a name with a zero byte", []byte{6, 2, 'a', 0}, api.ErrForm},
		{"no Number", []byte{7}, api.ErrShort},
		{"a Number that ends too early", []byte{7, 193, 132}, api.ErrShort},
		{"a Number that is not canonical", []byte{7, 138, 0}, api.ErrForm},
		{"a Number above MaxRides", []byte{7, 193, 132, 61}, api.ErrForm},
		{"a Number above MaxNumber", []byte{7, 129, 128, 128, 128, 128, 128, 64}, api.ErrRange},
	} {
		if p, used, e := predicate.Decode(c.b); p != (api.Predicate{}) || used != 0 || e != c.want {
			t.Errorf("Decode of %s = %v, %d, %d, want %d", c.name, p, used, e, c.want)
		}
	}
}

// P6.3: the bytes of valid predicates are decoded, whatever stands behind them; cut off anywhere they are ErrShort.
func TestDecodeOfBytes(t *testing.T) {
	for _, p := range validOnes() {
		b, _ := describedBytes(p)
		for _, after := range [][]byte{nil, {0}, {7}, {128}, {255, 255}, bytes.Repeat([]byte{97}, 20)} {
			if q, used, e := predicate.Decode(slices.Concat(b, after)); q != p || used != len(b) || e != api.OK {
				t.Fatalf("Decode(%v) = %v, %d, %d, want %v", b, q, used, e, p)
			}
		}
		for size := range len(b) {
			if q, used, e := predicate.Decode(b[:size]); q != (api.Predicate{}) || used != 0 || e != api.ErrShort {
				t.Fatalf("Decode of %d bytes of %v = %v, %d, %d", size, b, q, used, e)
			}
		}
	}
}

// P6.3: all strings of up to two bytes, strings of up to seven bytes at which something changes, and changed bytes of predicates.
func TestDecodeOfAllStrings(t *testing.T) {
	check := func(b []byte) { checkDecode(t, b) }
	for size := range 3 {
		eachString(size, allBytes(), check)
	}
	for kind := range byte(9) {
		for size := range 7 {
			eachString(size, []byte{0, 1, 97, 128, 129}, func(b []byte) { check(append([]byte{kind}, b...)) })
		}
	}
	for _, p := range []api.Predicate{
		{Kind: api.PredZone, Mask: 38}, {Kind: api.PredLine, Mask: 1 << 31}, {Kind: api.PredDays, Mask: 65},
		{Kind: api.PredTime, From: 100, To: 200}, {Kind: api.PredTime, To: 67108864}, {Kind: api.PredDaily, From: 1380, To: 300},
		{Kind: api.PredHolder, Name: "ann"}, {Kind: api.PredHolder, Name: "abcdefghijklmnop"}, {Kind: api.PredRides, Number: 1000000},
	} {
		b, _ := describedBytes(p)
		eachChange(b, allBytes(), check)
	}
}

// P6.4: different predicates have different texts and different bytes, none of which begins with the ones of another.
func TestPredicatesAreDetermined(t *testing.T) {
	texts, encodings := map[string]api.Predicate{}, map[string]api.Predicate{}
	l := validOnes()
	for _, p := range l {
		s, _ := predicate.Format(p)
		b, _ := predicate.Encode(p)
		if other, ok := texts[s]; ok && other != p {
			t.Fatalf("%v and %v have the text %q", other, p, s)
		}
		if other, ok := encodings[string(b)]; ok && other != p {
			t.Fatalf("%v and %v have the bytes %v", other, p, b)
		}
		texts[s], encodings[string(b)] = p, p
	}
	for _, p := range l {
		b, _ := predicate.Encode(p)
		for size := range len(b) {
			if other, ok := encodings[string(b[:size])]; ok {
				t.Fatalf("the bytes of %v begin with those of %v", p, other)
			}
		}
	}
}

// P6.4: every text and every string of bytes that is accepted is the one of the predicate that is returned.
func TestTextsAndBytesAreDetermined(t *testing.T) {
	readText := func(s []byte) {
		p, e := predicate.Parse(string(s))
		if e != api.OK {
			return
		}
		if again, e := predicate.Format(p); again != string(s) || e != api.OK {
			t.Fatalf("%q is parsed as %v with the text %q, %d", s, p, again, e)
		}
	}
	readBytes := func(b []byte) {
		p, used, e := predicate.Decode(b)
		if e != api.OK {
			return
		}
		if again, e := predicate.Encode(p); !bytes.Equal(again, b[:used]) || e != api.OK {
			t.Fatalf("%v is decoded as %v with the bytes %v, %d", b, p, again, e)
		}
	}
	for _, p := range []api.Predicate{
		{Kind: api.PredZone, Mask: 38}, {Kind: api.PredDays, Mask: 65}, {Kind: api.PredTime, From: 100, To: 200}, {Kind: api.PredDaily, From: 1380, To: 300}, {Kind: api.PredHolder, Name: "ann"}, {Kind: api.PredRides, Number: 300},
	} {
		s, _ := predicate.Format(p)
		b, _ := predicate.Encode(p)
		eachChange([]byte(s), allBytes(), readText)
		eachChange(b, []byte{0, 1, 2, 5, 64, 97, 122, 127, 128, 129, 200, 255}, func(c []byte) {
			eachChange(c, []byte{0, 1, 6, 97, 128, 255}, readBytes)
		})
	}
}

// R3: arguments are not modified, and results share no memory with them or with one another.
func TestNoSharedMemory(t *testing.T) {
	for _, p := range []api.Predicate{{Kind: api.PredZone, Mask: 38}, {Kind: api.PredTime, To: 300}, {Kind: api.PredHolder, Name: "ann"}, {Kind: api.PredRides, Number: 300}} {
		want, _ := describedBytes(p)
		b, _ := predicate.Encode(p)
		c, _ := predicate.Encode(p)
		clear(b[:cap(b)])
		if !bytes.Equal(c, want) {
			t.Errorf("two encodings of %v share memory", p)
		}
		memory := append(bytes.Clone(want), 77, 77)
		q, _, _ := predicate.Decode(memory[:len(want)])
		if !bytes.Equal(memory, append(bytes.Clone(want), 77, 77)) {
			t.Errorf("Decode modified %v to %v", want, memory)
		}
		clear(memory)
		if q != p {
			t.Errorf("%v became %v", p, q)
		}
	}
}
