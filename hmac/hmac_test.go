package hmac_test

import (
	"bytes"
	stdhmac "crypto/hmac"
	"crypto/sha256"
	"encoding/binary"
	"encoding/hex"
	"math"
	"strings"
	"testing"
	"time"

	"macaroon/api"
	"macaroon/hmac"
)

// sample returns n bytes that differ from block to block, and with the seed.
func sample(seed, n int) []byte {
	b := make([]byte, n)
	for i := range b {
		b[i] = byte(i*i + 5*i + i>>6 + seed)
	}
	return b
}

// reference returns the tag as the standard library computes it.
func reference(key, message []byte) api.Tag {
	h := stdhmac.New(sha256.New, key)
	h.Write(message)
	return api.Tag(h.Sum(nil))
}

// described returns the tag as P2.1 describes it.
func described(key, message []byte) api.Tag {
	if len(key) > 64 {
		d := sha256.Sum256(key)
		key = d[:]
	}
	var inner, outer []byte
	for i := range 64 {
		var x byte
		if i < len(key) {
			x = key[i]
		}
		inner, outer = append(inner, x^54), append(outer, x^92)
	}
	b := sha256.Sum256(append(inner, message...))
	return sha256.Sum256(append(outer, b[:]...))
}

// P2.1: the document's example, and the tags of RFC 4231.
func TestPublishedTags(t *testing.T) {
	for i, c := range []struct {
		key, message []byte
		tag          string
	}{
		{[]byte("key"), []byte("The quick brown fox jumps over the lazy dog"),
			"f7bc83f430538424b13298e6aa6fb143ef4d59a14946175997479dbc2d1a3cd8"},
		{bytes.Repeat([]byte{0x0b}, 20), []byte("Hi There"),
			"b0344c61d8db38535ca8afceaf0bf12b881dc200c9833da726e9376c2e32cff7"},
		{[]byte("Jefe"), []byte("what do ya want for nothing?"),
			"5bdcc146bf60754e6a042426089575c75a003f089d2739839dec58b964ec3843"},
		{bytes.Repeat([]byte{0xaa}, 20), bytes.Repeat([]byte{0xdd}, 50),
			"773ea91e36800e46854db8ebd09181a72959098b3ef8c122d9635514ced565fe"},
		{bytes.Repeat([]byte{0xaa}, 131), []byte("Test Using Larger Than Block-Size Key - Hash Key First"),
			"60e431591ee0b67f0d8a26aacbf5b77f8e0bc6213728c5140546040f0ee37f54"},
		{nil, nil, "b613679a0814d9ec772f95d778c35fc5ff1697c493715653c6c712144292c5ad"},
	} {
		if d := hmac.Of(c.key, c.message); hex.EncodeToString(d[:]) != c.tag {
			t.Errorf("case %d: %x, want %s", i, d, c.tag)
		}
	}
}

// P2.1: keys of all lengths around 64, above which a key is replaced by its digest.
func TestTagsOfAllKeyLengths(t *testing.T) {
	for n := range 200 {
		key, message := sample(n, n), sample(3, 77)
		d := hmac.Of(key, message)
		if d != described(key, message) || d != reference(key, message) {
			t.Errorf("the tag under a key of %d bytes is %x", n, d)
		}
	}
}

// P2.1: messages of all lengths around the ends of blocks.
func TestTagsOfAllMessageLengths(t *testing.T) {
	for _, keySize := range []int{0, 32, 64, 65} {
		key := sample(9, keySize)
		for n := range 200 {
			if d := hmac.Of(key, sample(n, n)); d != reference(key, sample(n, n)) {
				t.Errorf("the tag of %d bytes under a key of %d bytes is %x", n, keySize, d)
			}
		}
	}
}

// P2.1: every byte value in keys and messages, and a long message.
func TestTagsOfAllBytes(t *testing.T) {
	for x := range 256 {
		b := bytes.Repeat([]byte{byte(x)}, 40)
		if hmac.Of(b, b) != reference(b, b) {
			t.Errorf("the tag of the byte %d is wrong", x)
		}
	}
	if key, message := sample(1, 1<<16), sample(2, 1<<20+1); hmac.Of(key, message) != reference(key, message) {
		t.Error("the tag of a long message is wrong")
	}
}

// P2.1: keys that are extended with zero bytes, or replaced by their digest, have the tags of what they become.
func TestEquivalentKeys(t *testing.T) {
	message := []byte("message")
	for n := range 65 {
		key := sample(n, n)
		if hmac.Of(key, message) != hmac.Of(append(key, make([]byte, 64-n)...), message) {
			t.Errorf("a key of %d bytes is not extended with zero bytes", n)
		}
	}
	for _, n := range []int{64, 65, 100} {
		key := sample(n, n)
		d := sha256.Sum256(key)
		if same := hmac.Of(key, message) == hmac.Of(d[:], message); same != (n > 64) {
			t.Errorf("a key of %d bytes is replaced by its digest: %v", n, same)
		}
	}
}

// P2.1: nil and empty slices are equivalent.
func TestEmptyArguments(t *testing.T) {
	if hmac.Of(nil, nil) != hmac.Of([]byte{}, []byte{}) || hmac.Of(nil, nil) != reference(nil, nil) {
		t.Error("the tag of no bytes is wrong")
	}
	if !hmac.Equal(nil, nil) || !hmac.Equal(nil, []byte{}) || !hmac.Equal([]byte{}, nil) {
		t.Error("slices without bytes are not equal")
	}
}

// P2.2: a difference of any single bit, at any place, is seen.
func TestEqualSeesEveryBit(t *testing.T) {
	for _, n := range []int{1, 2, 31, 32, 33, 64, 100} {
		a, b := sample(n, n), sample(n, n)
		if !hmac.Equal(a, b) || !hmac.Equal(a, a) {
			t.Errorf("%d equal bytes are not equal", n)
		}
		for bit := range 8 * n {
			b[bit/8] ^= 1 << (bit % 8)
			if hmac.Equal(a, b) || hmac.Equal(b, a) {
				t.Errorf("%d bytes that differ in the bit %d are equal", n, bit)
			}
			b[bit/8] ^= 1 << (bit % 8)
		}
	}
}

// P2.2: two differences do not cancel one another.
func TestEqualOfSeveralDifferences(t *testing.T) {
	for x := 1; x < 256; x++ {
		a := make([]byte, 8)
		b := []byte{0, byte(x), 0, byte(x), 0, byte(-x), byte(x), 0}
		if hmac.Equal(a, b) || hmac.Equal(a[:4], b[:4]) || hmac.Equal(a[3:6], b[3:6]) {
			t.Errorf("bytes that differ twice by %d are equal", x)
		}
	}
	for _, c := range []struct{ a, b string }{{"ab", "ba"}, {"aab", "aba"}, {"abcd", "dcba"}} {
		if hmac.Equal([]byte(c.a), []byte(c.b)) {
			t.Errorf("%q and %q are equal", c.a, c.b)
		}
	}
}

// P2.2: the lengths are compared, also if what is left over is zero bytes.
func TestEqualOfOtherLengths(t *testing.T) {
	b := make([]byte, 300)
	for _, n := range []int{0, 1, 31, 32, 33, 44, 64, 256, 299, 300} {
		for m := range len(b) + 1 {
			if hmac.Equal(b[:n], b[:m]) != (n == m) {
				t.Errorf("Equal of %d and %d zero bytes is %v", n, m, n != m)
			}
		}
	}
}

// fastest returns the shortest time of a comparison for each place of a difference. Shortest, and in turns, so that other work of the machine does not matter.
func fastest(t *testing.T, places []int, size int) []time.Duration {
	a, b := make([]byte, size), make([]byte, size)
	shortest := make([]time.Duration, len(places))
	for round := range 10 {
		for i, p := range places {
			b[p] = 1
			start := time.Now()
			equal := hmac.Equal(a, b)
			if d := time.Since(start); round == 0 || d < shortest[i] {
				shortest[i] = d
			}
			if equal {
				t.Errorf("a difference at %d is not seen", p)
			}
			b[p] = 0
		}
	}
	return shortest
}

// P2.2: all bytes are compared, wherever the first difference is. A comparison that ends early at the first of 2^22 bytes would take less than a thousandth of the time, so a factor of 20 is far from both.
func TestEqualComparesAllBytes(t *testing.T) {
	const size = 1 << 22
	places := []int{0, 1, size / 100, size - size/100, size - 2, size - 1}
	times := fastest(t, places, size)
	for i, x := range times {
		for j, y := range times {
			if 20*x < y {
				t.Errorf("a difference at %d takes %v, and one at %d takes %v", places[i], x, places[j], y)
			}
		}
	}
}

// P2.3: the derived key is the tag of the label, a zero byte, and the number in eight bytes.
func TestDerivedKeys(t *testing.T) {
	for _, key := range []api.Tag{{}, {1, 2, 3}, api.Tag(sample(4, 32))} {
		for _, label := range []string{"a", "z", "m", "az", "fresh", strings.Repeat("a", 15), "abcdefghijklmnop", "qrstuvwxyzaaaaaz"} {
			for _, n := range []int{0, 1, 255, 256, 258, 1 << 24, 1<<32 - 1, 1 << 32, 0x123456789abc, api.MaxNumber - 1, api.MaxNumber} {
				m := binary.BigEndian.AppendUint64(append([]byte(label), 0), uint64(n))
				if d, e := hmac.Derive(key, label, n); d != reference(key[:], m) || e != api.OK {
					t.Errorf("Derive of %q and %d is %x, %d", label, n, d, e)
				}
			}
		}
	}
}

// P2.3: a label has 1 to MaxName bytes.
func TestLengthsOfLabels(t *testing.T) {
	for n := range 300 {
		want := api.ErrName
		if 1 <= n && n <= 16 {
			want = api.OK
		}
		if d, e := hmac.Derive(api.Tag{1}, strings.Repeat("b", n), 7); e != want || (d == api.Tag{}) != (e != api.OK) {
			t.Errorf("Derive with a label of %d letters is %x, %d", n, d, e)
		}
	}
}

// P2.3: each byte of a label is a letter from a to z.
func TestLettersOfLabels(t *testing.T) {
	for x := range 256 {
		want := api.ErrName
		if 'a' <= x && x <= 'z' {
			want = api.OK
		}
		c := string([]byte{byte(x)})
		for _, label := range []string{c, c + "ab", "a" + c + "b", "ab" + c, strings.Repeat("a", 15) + c} {
			if d, e := hmac.Derive(api.Tag{1}, label, 7); e != want || (d == api.Tag{}) != (e != api.OK) {
				t.Errorf("Derive with the label %q is %x, %d", label, d, e)
			}
		}
	}
	for _, label := range []string{"ä", "aß", "ａ", "日本", "a\x00", "a b", "aB", "a1", "a-b", "\xff"} {
		if d, e := hmac.Derive(api.Tag{1}, label, 7); d != (api.Tag{}) || e != api.ErrName {
			t.Errorf("Derive with the label %q is %x, %d", label, d, e)
		}
	}
}

// P2.3: numbers out of the range, and the order of the errors.
func TestErrorsOfDerive(t *testing.T) {
	for _, n := range []int{-1, -2, -api.MaxNumber, math.MinInt, api.MaxNumber + 1, 1 << 56, math.MaxInt} {
		if d, e := hmac.Derive(api.Tag{1}, "a", n); d != (api.Tag{}) || e != api.ErrRange {
			t.Errorf("Derive with %d is %x, %d", n, d, e)
		}
		for _, label := range []string{"", "A", strings.Repeat("a", 17)} {
			if d, e := hmac.Derive(api.Tag{1}, label, n); d != (api.Tag{}) || e != api.ErrName {
				t.Errorf("Derive with %q and %d is %x, %d", label, n, d, e)
			}
		}
	}
}

// P2.4: other labels, other numbers and other keys make other keys.
func TestKeysForDifferentPurposes(t *testing.T) {
	type purpose struct {
		key   byte
		label string
		n     int
	}
	seen := map[api.Tag]purpose{}
	for _, key := range []byte{0, 1} {
		for _, label := range []string{"a", "b", "aa", "ab", "ba", "aab", "root", "feed", "fresh", "box", "aaaaaaaaaaaaaaaa", "aaaaaaaaaaaaaaab"} {
			for _, n := range []int{0, 1, 'a', 256, 'a' << 8, 'a' << 40, api.MaxNumber} {
				p := purpose{key, label, n}
				d, e := hmac.Derive(api.Tag{key}, label, n)
				if other, ok := seen[d]; ok || e != api.OK {
					t.Errorf("%v and %v have the same key, %d", p, other, e)
				}
				seen[d] = p
			}
		}
	}
}

// R3: arguments are not modified, not even the memory behind them.
func TestArgumentsStayAsTheyAre(t *testing.T) {
	for _, n := range []int{0, 10, 63, 64, 65, 100} {
		key, message := sample(1, 300), sample(2, 300)
		hmac.Of(key[:n], message[:n])
		hmac.Equal(key[:n], message[:n])
		if !bytes.Equal(key, sample(1, 300)) || !bytes.Equal(message, sample(2, 300)) {
			t.Errorf("arguments of %d bytes were modified", n)
		}
	}
}
