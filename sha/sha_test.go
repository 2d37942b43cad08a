package sha_test

import (
	"bytes"
	"crypto/sha256"
	"encoding/binary"
	"encoding/hex"
	"math"
	"slices"
	"strings"
	"testing"

	"macaroon/api"
	"macaroon/sha"
)

// sample returns n bytes that differ from block to block.
func sample(n int) []byte {
	b := make([]byte, n)
	for i := range b {
		b[i] = byte(i*i + 7*i + i>>6 + 129)
	}
	return b
}

// padded returns the message b with its padding, as P1.1 describes it.
func padded(b []byte) []byte {
	p := append(bytes.Clone(b), 128)
	for len(p)%64 != 56 {
		p = append(p, 0)
	}
	return binary.BigEndian.AppendUint64(p, uint64(len(b))*8)
}

func same(x, y api.Hash) bool {
	return x.H == y.H && bytes.Equal(x.Rest, y.Rest) && x.Len == y.Len
}

func clone(h api.Hash) api.Hash {
	h.Rest = bytes.Clone(h.Rest)
	return h
}

// P1.1: digests that were published.
func TestPublishedDigests(t *testing.T) {
	for _, c := range []struct{ message, digest string }{
		{"", "e3b0c44298fc1c149afbf4c8996fb92427ae41e4649b934ca495991b7852b855"},
		{"abc", "ba7816bf8f01cfea414140de5dae2223b00361a396177a9cb410ff61f20015ad"},
		{"abcdbcdecdefdefgefghfghighijhijkijkljklmklmnlmnomnopnopq",
			"248d6a61d20638b8e5c026930c3e6039a33ce45964ff2167f6ecedd419db06c1"},
		{"abcdefghbcdefghicdefghijdefghijkefghijklfghijklmghijklmnhijklmnoijklmnopjklmnopqklmnopqrlmnopqrsmnopqrstnopqrstu",
			"cf5b16a778af8380036ce59e7b0492370b249b11e8f07a51afac45037afee9d1"},
		{"The quick brown fox jumps over the lazy dog",
			"d7a8fbb307d7809469ca9abcb0082e4f8d5651e46d3cdb762d02d0bf37c9e592"},
		{strings.Repeat("a", 1000000), "cdc76e5c9914fb9281a1c7e284d73e67f1809a48a497200e046d39ccc7112cd0"},
	} {
		d := sha.Of([]byte(c.message))
		if hex.EncodeToString(d[:]) != c.digest {
			t.Errorf("Of(%.20q) = %x, want %s", c.message, d, c.digest)
		}
	}
}

// P1.1: all lengths around the ends of blocks, where the padding needs another block or does not.
func TestDigestsOfAllLengths(t *testing.T) {
	b := sample(400)
	for n := range len(b) + 1 {
		if d := sha.Of(b[:n]); d != api.Tag(sha256.Sum256(b[:n])) {
			t.Errorf("Of of %d bytes = %x", n, d)
		}
	}
	if d := sha.Of(nil); d != sha.Of([]byte{}) {
		t.Errorf("Of(nil) = %x", d)
	}
}

// P1.1: the number of bits has more than two bytes, and each byte value occurs.
func TestDigestsOfLongMessages(t *testing.T) {
	for _, n := range []int{8191, 8192, 8193, 1<<21 + 55, 1<<21 + 56} {
		if b := sample(n); sha.Of(b) != api.Tag(sha256.Sum256(b)) {
			t.Errorf("Of of %d bytes is wrong", n)
		}
	}
	for x := range 256 {
		if b := bytes.Repeat([]byte{byte(x)}, 100); sha.Of(b) != api.Tag(sha256.Sum256(b)) {
			t.Errorf("Of of the byte %d is wrong", x)
		}
	}
}

// P1.2: New returns the state before the first byte.
func TestNew(t *testing.T) {
	want := api.Hash{H: [8]uint32{
		0x6a09e667, 0xbb67ae85, 0x3c6ef372, 0xa54ff53a, 0x510e527f, 0x9b05688c, 0x1f83d9ab, 0x5be0cd19,
	}}
	if h := sha.New(); !same(h, want) {
		t.Errorf("New() = %v", h)
	}
	if h := sha.Write(sha.New(), nil); !same(h, want) {
		t.Errorf("Write of no bytes = %v", h)
	}
}

// P1.2: Rest and Len after each length, and H only changes with complete blocks.
func TestStatesOfAllLengths(t *testing.T) {
	b := sample(400)
	for n := range len(b) + 1 {
		h := sha.Write(sha.New(), b[:n])
		whole := n / 64 * 64
		if h.H != sha.Write(sha.New(), b[:whole]).H || !bytes.Equal(h.Rest, b[whole:n]) || h.Len != n {
			t.Errorf("the state after %d bytes is %v", n, h)
		}
		if d := sha.Sum(h); d != api.Tag(sha256.Sum256(b[:n])) {
			t.Errorf("Sum after %d bytes = %x", n, d)
		}
	}
}

// P1.2: the chaining value after a padded message is the digest of the message.
func TestChainingValueIsTheDigest(t *testing.T) {
	for _, n := range []int{0, 1, 3, 55, 56, 63, 64, 65, 119, 120, 300} {
		p := padded(sample(n))
		h := sha.Write(sha.New(), p)
		var got []byte
		for _, x := range h.H {
			got = binary.BigEndian.AppendUint32(got, x)
		}
		if want := sha256.Sum256(sample(n)); !bytes.Equal(got, want[:]) || len(h.Rest) != 0 || h.Len != len(p) {
			t.Errorf("the state after a padded message of %d bytes is %v", n, h)
		}
	}
}

// P1.2: Sum leaves the state as it is, so that more bytes can be written.
func TestWriteAfterSum(t *testing.T) {
	h := sha.Write(sha.New(), sample(70))
	before := clone(h)
	if sha.Sum(h) != sha.Sum(h) || !same(h, before) {
		t.Errorf("Sum changed the state to %v", h)
	}
	if sha.Sum(sha.Write(h, sample(200)[70:])) != sha.Of(sample(200)) {
		t.Error("the digest after a Sum is wrong")
	}
}

// P1.3: the digest and the state are the same for every division into two parts.
func TestTwoParts(t *testing.T) {
	for _, n := range []int{0, 1, 63, 64, 65, 128, 200, 256} {
		b := sample(n)
		want := sha.Write(sha.New(), b)
		for i := range n + 1 {
			h := sha.Write(sha.Write(sha.New(), b[:i]), b[i:])
			if !same(h, want) || sha.Sum(h) != sha.Of(b) {
				t.Errorf("%d bytes divided after %d: %v", n, i, h)
			}
		}
	}
}

// P1.3: the digest is the same for many parts of one length, with empty parts between them.
func TestManyParts(t *testing.T) {
	b := sample(500)
	for size := 1; size <= 200; size++ {
		h := sha.New()
		for part := range slices.Chunk(b, size) {
			h = sha.Write(sha.Write(h, part), nil)
		}
		if !same(h, sha.Write(sha.New(), b)) || sha.Sum(h) != sha.Of(b) {
			t.Errorf("parts of %d bytes: %v", size, h)
		}
	}
}

// P1.2, R3: states share no memory with the bytes that were written, or with one another.
func TestStatesShareNoMemory(t *testing.T) {
	for _, n := range []int{2, 63, 64, 66, 130} {
		b := append(make([]byte, 0, 1000), sample(n)...)
		x := sha.Write(sha.New(), b)
		kept := clone(x)
		clear(b)
		y, z := sha.Write(x, []byte("c")), sha.Write(x, []byte("d"))
		again := sha.Write(x, nil)
		if sha.Sum(y) != sha.Of(append(sample(n), 'c')) || sha.Sum(z) != sha.Of(append(sample(n), 'd')) {
			t.Errorf("two states that follow the one after %d bytes are wrong", n)
		}
		clear(again.Rest)
		clear(y.Rest)
		if !same(x, kept) {
			t.Errorf("the state after %d bytes became %v", n, x)
		}
		clear(x.Rest)
		if sha.Sum(z) != sha.Of(append(sample(n), 'd')) {
			t.Errorf("a state after %d bytes changed with the one before it", n)
		}
	}
}

// R3: the bytes that are written are not modified.
func TestArgumentsStayAsTheyAre(t *testing.T) {
	b := append(make([]byte, 0, 1000), sample(100)...)
	sha.Of(b)
	sha.Write(sha.Write(sha.New(), b[:10]), b[10:])
	if !bytes.Equal(b, sample(100)) || slices.Max(b[100:1000]) != 0 {
		t.Error("the bytes were modified")
	}
}

// R1: states that New and Write did not return lead to no panic.
func TestOtherStates(t *testing.T) {
	for _, rest := range []int{0, 1, 63, 64, 65, 200} {
		for _, n := range []int{math.MinInt, -65, -64, -1, 0, 1, 56, math.MaxInt} {
			h := api.Hash{Rest: sample(rest), Len: n}
			before := clone(h)
			sha.Sum(sha.Write(h, sample(3)))
			if sha.Sum(h) != sha.Sum(before) || !same(h, before) {
				t.Errorf("the state with %d bytes and the length %d was modified", rest, n)
			}
		}
	}
}
