package box_test

import (
	"bytes"
	"encoding/hex"
	"math"
	"math/rand/v2"
	"slices"
	"strings"
	"sync"
	"testing"

	"macaroon/algebra"
	"macaroon/api"
	"macaroon/box"
)

var kinds = []bool{false, true} // of algebras: computed, free

// text returns n bytes that differ from their neighbours.
func text(n int) string {
	b := make([]byte, n)
	for i := range b {
		b[i] = byte(i*7 + i/256)
	}
	return string(b)
}

// P11.1: boxes of a computed algebra, as another program has computed them.
func TestComputedBoxesWrittenOut(t *testing.T) {
	ascending := api.Tag{}
	for i := range ascending {
		ascending[i] = byte(i)
	}
	for _, c := range []struct {
		call
		want string
	}{
		{call{api.Tag{9}, 258, "a ride through the zones one and two"}, "0000000000000102" +
			"2b7895bb0d38595b08a0d9deda4891948e4223c27ffe891f605374d713ca439b087ebb5f" +
			"aba1e0feb9e9255db7ba7c2c02330a4895d83c5c46409efcfb0c0cf888cca6fe"},
		{call{api.Tag{}, 0, ""}, "0000000000000000" +
			"5bc530cff50a6b185ed34aa8fb12c5cb2e47ef4bc2a46a51f2f3bc04dd679d73"},
		{call{ascending, 1 << 48, "ab"}, "0001000000000000" + "ba65" +
			"75bee62e02243f8cc6cffa5c163fb5714ad1d853d7d067cb3ec6dcae57197b82"},
	} {
		a, sealed := mustSeal(t, algebra.New(false, api.Tag{}), c.call)
		if hex.EncodeToString(sealed) != c.want {
			t.Errorf("the box of %q is %x, want %s", c.plain, sealed, c.want)
		}
		if plain, e := box.Open(a, c.key, sealed); string(plain) != c.plain || e != api.OK {
			t.Errorf("the box of %q is opened as %q, %d", c.plain, plain, e)
		}
	}
}

// P11.1: boxes of a free algebra, written out: the first one, the same once more, and two further ones.
func TestFreeBoxesWrittenOut(t *testing.T) {
	zeros := func(n int) string { return strings.Repeat("\x00", n) }
	want := []string{
		"symbolb\x00\x00\x00\x00\x00\x00\x00\x01" + zeros(17) + zeros(10),
		"symbolb\x00\x00\x00\x00\x00\x00\x00\x01" + zeros(17) + zeros(10),
		"symbolb\x00\x00\x00\x00\x00\x00\x00\x02" + zeros(17) + zeros(8),
		"symbolb\x00\x00\x00\x00\x00\x00\x00\x03" + zeros(17) + zeros(264),
	}
	a := algebra.New(true, api.Tag{})
	for i, c := range []call{{api.Tag{1}, 5, "ab"}, {api.Tag{1}, 5, "ab"}, {api.Tag{1}, 5, ""}, {api.Tag{2}, 6, text(256)}} {
		var sealed []byte
		if a, sealed = mustSeal(t, a, c); string(sealed) != want[i] {
			t.Errorf("the box %d is %q, want %q", i, sealed, want[i])
		}
	}
	if len(a.Boxes) != 3 {
		t.Errorf("there are %d boxes", len(a.Boxes))
	}
}

// P11.1: the entry that is appended, and all that stays as it is.
func TestEntries(t *testing.T) {
	c := call{api.Tag{1, 31: 2}, 77, "plain"}
	for _, free := range kinds {
		d, a := filled(free, 3)
		before := copied(a)
		b, sealed := mustSeal(t, a, c)
		want := copied(a)
		want.Boxes = append(want.Boxes, api.Sealed{Key: c.key, Nonce: 77, Plain: []byte("plain"), Box: sealed})
		if !same(a, before) || !same(b, want) {
			t.Errorf("free %v: %v follows %v", free, b, a)
		}
		d, described, _ := d.seal(c)
		if !bytes.Equal(sealed, described) || !same(b, d.algebra()) {
			t.Errorf("free %v: the box is %x, want %x", free, sealed, described)
		}
		again, once := mustSeal(t, b, c)
		if !same(again, b) || !bytes.Equal(once, sealed) {
			t.Errorf("free %v: once more, the box is %x; there are %d boxes", free, once, len(again.Boxes))
		}
	}
}

// P11.1 and P11.2: an entry is found by its whole key, its nonce and its whole contents, wherever it stands.
func TestEntriesAreFoundByAllTheyAreMadeOf(t *testing.T) {
	var calls []call
	for bit := range 256 {
		key := api.Tag{31: 77}
		key[bit/8] ^= 1 << (bit % 8)
		calls = append(calls, call{key, 1, "plain"})
	}
	for bit := range 49 {
		calls = append(calls, call{api.Tag{31: 77}, 1 << bit, "plain"})
	}
	long := text(255)
	for _, p := range []string{"", "\x00", "\x00\x00", "p", "plain\x00", "plaim", "qlain", "plai", long, long + "x", long + "y"} {
		calls = append(calls, call{api.Tag{31: 77}, 1, p}, call{api.Tag{}, 0, p})
	}
	for _, free := range kinds {
		d, a := described{free: free}, described{free: free}.algebra()
		for i, c := range calls {
			var sealed []byte
			d.calls = append(d.calls, c)
			if a, sealed = mustSeal(t, a, c); !bytes.Equal(sealed, d.box(i)) || len(a.Boxes) != i+1 {
				t.Errorf("free %v: the box of the call %d is %x; there are %d boxes", free, i, sealed, len(a.Boxes))
			}
		}
		for i, c := range calls {
			b, sealed := mustSeal(t, a, c)
			if !bytes.Equal(sealed, d.box(i)) || len(b.Boxes) != len(calls) {
				t.Errorf("free %v: once more, the box of the call %d is %x", free, i, sealed)
			}
			if plain, e := box.Open(a, c.key, sealed); string(plain) != c.plain || e != api.OK {
				t.Errorf("free %v: the box of the call %d is opened as %q, %d", free, i, plain, e)
			}
		}
		if !same(a, d.algebra()) {
			t.Errorf("free %v: the entries are wrong", free)
		}
	}
}

// P11.1: a box without contents is one box, whether they are nil or empty.
func TestBoxWithoutContents(t *testing.T) {
	for _, free := range kinds {
		for _, l := range [][2][]byte{{nil, {}}, {{}, nil}} {
			a, x, _ := box.Seal(algebra.New(free, api.Tag{}), api.Tag{1}, 3, l[0])
			b, y, e := box.Seal(a, api.Tag{1}, 3, l[1])
			if !bytes.Equal(x, y) || len(x) != 40 || e != api.OK || len(a.Boxes) != 1 || len(b.Boxes) != 1 {
				t.Errorf("free %v: %x, %x, %d; %d and %d boxes", free, x, y, e, len(a.Boxes), len(b.Boxes))
			}
			if plain, e := box.Open(b, api.Tag{1}, x); len(plain) != 0 || e != api.OK {
				t.Errorf("free %v: the box is opened as %x, %d", free, plain, e)
			}
		}
	}
}

// P11.1: the errors, in their order, and the arguments next to them that have none.
func TestErrorsOfSeal(t *testing.T) {
	for _, free := range kinds {
		d, a := filled(free, 2)
		before := copied(a)
		for _, nonce := range []int{0, 1, 255, 256, 1<<48 - 1, 1 << 48, 1<<48 + 1, 1 << 56, math.MaxInt, -1, -1 << 48, math.MinInt} {
			for _, size := range []int{0, 1, 31, 32, 33, 255, 256, 257, 296, 1024, 4097} {
				c := call{api.Tag{1}, nonce, text(size)}
				_, want, wantErr := d.seal(c)
				b, sealed, e := box.Seal(a, c.key, c.nonce, []byte(c.plain))
				if !bytes.Equal(sealed, want) || e != wantErr {
					t.Errorf("free %v: Seal of %d bytes with the nonce %d is %x, %d, want %x, %d", free, size, nonce, sealed, e, want, wantErr)
				}
				if e == api.OK && len(b.Boxes) != 3 || e != api.OK && (!same(b, api.Algebra{}) || len(sealed) != 0) {
					t.Errorf("free %v: Seal of %d bytes with the nonce %d, %d: %v follows", free, size, nonce, e, b)
				}
			}
		}
		if !same(a, before) {
			t.Errorf("free %v: the algebra was changed", free)
		}
	}
}

// P11.1: the last box that there can be, and a further one. A box that is there is found in a full algebra, too, and the errors of the other arguments come first.
func TestLimitOfBoxes(t *testing.T) {
	for _, free := range kinds {
		d, a := filled(free, 65535)
		last := call{api.Tag{9}, 65535, "last"}
		full, sealed := mustSeal(t, a, last)
		d, want, _ := d.seal(last)
		if !bytes.Equal(sealed, want) || len(full.Boxes) != 65536 || len(a.Boxes) != 65535 {
			t.Errorf("free %v: the last box is %x; there are %d boxes", free, sealed, len(full.Boxes))
		}
		for _, c := range []call{
			{api.Tag{9}, 65536, "last"}, {api.Tag{}, 65535, "last"}, {api.Tag{9}, 65535, ""}, {api.Tag{9}, 1, text(257)}, {api.Tag{9}, -1, "last"},
		} {
			wantErr := api.ErrLimit
			if c.nonce < 0 {
				wantErr = api.ErrRange
			}
			if b, sealed, e := box.Seal(full, c.key, c.nonce, []byte(c.plain)); !same(b, api.Algebra{}) || len(sealed) != 0 || e != wantErr {
				t.Errorf("free %v: a further box is %x, %d, want %d", free, sealed, e, wantErr)
			}
		}
		beyond := copied(full)
		beyond.Boxes = append(beyond.Boxes, beyond.Boxes[0])
		if b, sealed, e := box.Seal(beyond, api.Tag{9}, 65536, []byte("last")); !same(b, api.Algebra{}) || len(sealed) != 0 || e != api.ErrLimit {
			t.Errorf("free %v: beyond the limit, a further box is %x, %d", free, sealed, e)
		}
		for _, i := range []int{0, 1, 40000, 65534, 65535} {
			b, sealed := mustSeal(t, full, d.calls[i])
			if !bytes.Equal(sealed, full.Boxes[i].Box) || len(b.Boxes) != 65536 {
				t.Errorf("free %v: the box of the entry %d is %x", free, i, sealed)
			}
			if plain, e := box.Open(full, d.calls[i].key, sealed); string(plain) != d.calls[i].plain || e != api.OK {
				t.Errorf("free %v: the entry %d is opened as %q, %d", free, i, plain, e)
			}
		}
	}
}

// P11.1: boxes and other entries are counted apart.
func TestOtherEntriesDoNotCount(t *testing.T) {
	for _, free := range kinds {
		a := algebra.New(free, api.Tag{})
		a.Fresh = 65536
		a.Macs = slices.Repeat([]api.Mac{{Key: api.Tag{1}, Message: []byte("m"), Tag: api.Tag{2}}}, 65536)
		b, sealed := mustSeal(t, a, call{api.Tag{1}, 1, "m"})
		want := described{free: free, calls: []call{{api.Tag{1}, 1, "m"}}}
		if !bytes.Equal(sealed, want.box(0)) || len(b.Macs) != 65536 || b.Fresh != 65536 {
			t.Errorf("free %v: the box is %x; there are %d tags, Fresh is %d", free, sealed, len(b.Macs), b.Fresh)
		}
	}
}

// P11.2: whatever is changed in a box or in its key, it is not opened.
func TestChangedBoxes(t *testing.T) {
	key := api.Tag{1, 31: 2}
	for _, free := range kinds {
		for _, size := range []int{0, 1, 5, 32, 40, 256} {
			c := call{key, 258, text(size)}
			d := described{free: free, calls: []call{{key, 1, "other"}, c, {api.Tag{7}, 258, c.plain}}}
			a := d.algebra()
			b := d.box(1)
			if plain, e := box.Open(a, key, b); string(plain) != c.plain || e != api.OK {
				t.Errorf("free %v: the box of %d bytes is opened as %x, %d", free, size, plain, e)
			}
			wrong := [][]byte{nil, {}, b[1:], slices.Concat(b, []byte{0}), slices.Concat([]byte{0}, b), slices.Concat(b, b), []byte(c.plain), d.box(2)}
			for i := range b {
				wrong = append(wrong, b[:i])
				for bit := range 8 {
					x := bytes.Clone(b)
					x[i] ^= 1 << bit
					wrong = append(wrong, x)
				}
			}
			for _, x := range wrong {
				if plain, e := box.Open(a, key, x); len(plain) != 0 || e != api.ErrSeal {
					t.Errorf("free %v: %x instead of %x is opened as %x, %d", free, x, b, plain, e)
				}
			}
			for bit := range 256 {
				other := key
				other[bit/8] ^= 1 << (bit % 8)
				if plain, e := box.Open(a, other, b); len(plain) != 0 || e != api.ErrSeal {
					t.Errorf("free %v: the box is opened under %x as %x, %d", free, other, plain, e)
				}
			}
		}
	}
}

// P11.2: in a free algebra only what was made is opened; in a computed one, every box with the right check is, also where nobody made it.
func TestBoxesOfOtherAlgebras(t *testing.T) {
	c := call{api.Tag{1}, 3, "plain"}
	for _, free := range kinds {
		made := described{free: free, calls: []call{c}}
		b := made.box(0)
		for _, opener := range kinds {
			want := ""
			if !free && !opener {
				want = c.plain
			}
			d, a := filled(opener, 2)
			checkOpen(t, d, a, c.key, b)
			if plain, e := box.Open(a, c.key, b); string(plain) != want || (e == api.OK) != (want != "") {
				t.Errorf("a box (free %v) is opened (free %v) as %q, %d", free, opener, plain, e)
			}
		}
	}
	recorded := api.Algebra{Boxes: []api.Sealed{{Key: api.Tag{1}, Nonce: 1, Plain: []byte("plain"), Box: []byte("box")}}}
	if plain, e := box.Open(recorded, api.Tag{1}, []byte("box")); len(plain) != 0 || e != api.ErrSeal {
		t.Errorf("an entry of a computed algebra is opened as %q, %d", plain, e)
	}
}

// P11.2: a symbol is opened with the key of its own entry alone.
func TestSymbolsAreOpenedWithTheirOwnKeys(t *testing.T) {
	keys := []api.Tag{{}, {1}, {2}, algebra.Symbol('k', 1)}
	d := described{free: true}
	for _, key := range keys {
		for _, p := range []string{"", "one", "two"} {
			d.calls = append(d.calls, call{key, len(d.calls), p})
		}
	}
	a := d.algebra()
	for n := range len(d.calls) + 3 {
		for size := range 5 {
			for _, key := range keys {
				checkOpen(t, d, a, key, symbolBox(n, size))
			}
		}
	}
}

// P11.2: boxes of every length, with the right check and with a wrong one: what is too short or too long is not opened.
func TestLengthsOfComputedBoxes(t *testing.T) {
	key := api.Tag{5}
	a := algebra.New(false, api.Tag{})
	for n := range 400 {
		b := []byte(text(n))
		if plain, e := box.Open(a, key, b); len(plain) != 0 || e != api.ErrSeal {
			t.Errorf("%d bytes without a check are opened as %x, %d", n, plain, e)
		}
		right := checked(key, b)
		checkOpen(t, described{}, a, key, right)
		if _, e := box.Open(a, key, right); (e == api.OK) != (n >= 8 && n <= 264) {
			t.Errorf("%d bytes with their check: %d", n+32, e)
		}
		last := computed(key, []byte("box"), b, make([]byte, 1))
		checkOpen(t, described{}, a, key, slices.Concat(b, last[:]))
	}
	long := checked(key, []byte(text(1<<20)))
	if plain, e := box.Open(a, key, long); len(plain) != 0 || e != api.ErrSeal {
		t.Errorf("a long box is opened: %d", e)
	}
}

// P11.2: the first eight bytes of a computed box are any eight bytes, also where they are no nonce that Seal takes.
func TestNoncesOfComputedBoxes(t *testing.T) {
	a := algebra.New(false, api.Tag{})
	for _, nonce := range []int{0, 1, 255, 256, 1 << 48, 1<<48 + 1, math.MaxInt, -1, math.MinInt} {
		d := described{calls: []call{{api.Tag{8}, nonce, text(70)}}}
		if plain, e := box.Open(a, api.Tag{8}, d.box(0)); string(plain) != text(70) || e != api.OK {
			t.Errorf("the box with the nonce %d is opened as %q, %d", nonce, plain, e)
		}
	}
}

// P11.2: the check is that of a box, and no other tag under the key.
func TestOtherTagsAreNoChecks(t *testing.T) {
	key := api.Tag{5}
	a := algebra.New(false, api.Tag{})
	b := []byte(text(20))
	for _, label := range []string{"", "stream", "Box", "bo", "box\x00", "boxx", "xbox"} {
		check := computed(key, []byte(label), b)
		if plain, e := box.Open(a, key, slices.Concat(b, check[:])); len(plain) != 0 || e != api.ErrSeal {
			t.Errorf("with the check of %q: %x, %d", label, plain, e)
		}
	}
}

// P11.3: what was sealed is opened with the same key, and a box of n bytes has n + 40 bytes: all lengths, in both kinds of algebras.
func TestSealedIsOpened(t *testing.T) {
	for _, free := range kinds {
		a, d := described{free: free}.algebra(), described{free: free}
		for n := range 257 {
			c := call{api.Tag{byte(n)}, n * n, text(n)}
			var sealed, want []byte
			d, want, _ = d.seal(c)
			a, sealed = mustSeal(t, a, c)
			if len(sealed) != n+40 || !bytes.Equal(sealed, want) {
				t.Errorf("free %v: the box of %d bytes is %x, want %x", free, n, sealed, want)
			}
			if plain, e := box.Open(a, c.key, sealed); string(plain) != c.plain || e != api.OK {
				t.Errorf("free %v: the box of %d bytes is opened as %x, %d", free, n, plain, e)
			}
		}
		for i, c := range d.calls {
			if plain, e := box.Open(a, c.key, d.box(i)); string(plain) != c.plain || e != api.OK {
				t.Errorf("free %v: at the end, the box of %d bytes is opened as %x, %d", free, i, plain, e)
			}
		}
	}
}

// P11.1 to P11.3: calls by lot, each from an algebra by lot that an earlier call returned, are compared with what the chapter describes; at the end all algebras are still as they were returned.
func TestCallsByLot(t *testing.T) {
	lot := rand.New(rand.NewPCG(11, 1))
	for _, free := range kinds {
		models := []described{{free: free}}
		algebras := []api.Algebra{models[0].algebra()}
		var boxes [][]byte
		for step := range 700 {
			i := len(models) - 1
			if step%4 == 0 {
				i = lot.IntN(len(models))
			}
			c := call{api.Tag{byte(lot.IntN(3))}, lot.IntN(4) - lot.IntN(20)/19, text(lot.IntN(4) + lot.IntN(20)/19*255)}
			d, want, wantErr := models[i].seal(c)
			a, sealed, e := box.Seal(algebras[i], c.key, c.nonce, []byte(c.plain))
			if !bytes.Equal(sealed, want) || e != wantErr {
				t.Fatalf("free %v, step %d: Seal is %x, %d, want %x, %d", free, step, sealed, e, want, wantErr)
			}
			if e != api.OK {
				continue
			}
			models, algebras, boxes = append(models, d), append(algebras, a), append(boxes, sealed)
			for range 3 {
				j := lot.IntN(len(models))
				checkOpen(t, models[j], algebras[j], api.Tag{byte(lot.IntN(3))}, boxes[lot.IntN(len(boxes))])
			}
		}
		for i, d := range models {
			if !same(algebras[i], d.algebra()) {
				t.Errorf("free %v: the algebra %d is not as it was returned", free, i)
			}
		}
	}
}

// R3: algebras that follow the same one do not share their further boxes, whatever the number of boxes is.
func TestFollowersDoNotShareBoxes(t *testing.T) {
	for _, free := range kinds {
		a := algebra.New(free, api.Tag{})
		for n := range 200 {
			var followers []api.Algebra
			for _, p := range []string{"p", "q", "r"} {
				b, _ := mustSeal(t, a, call{api.Tag{9}, 0, p})
				followers = append(followers, b)
			}
			for i, p := range []string{"p", "q", "r"} {
				if b := followers[i]; len(b.Boxes) != n+1 || string(b.Boxes[n].Plain) != p {
					t.Errorf("free %v: behind %d boxes, the entry of %q is %v", free, n, p, b.Boxes[n])
				}
			}
			a, _ = mustSeal(t, a, call{api.Tag{8}, n, "further"})
		}
	}
}

// R3: nothing is written into memory behind the entries of an argument, or behind its bytes.
func TestMemoryBehindArguments(t *testing.T) {
	for _, free := range kinds {
		for _, mark := range []api.Sealed{{}, {Key: api.Tag{7}, Nonce: 5, Plain: []byte("mark"), Box: []byte("box")}} {
			_, a := filled(free, 10)
			behind := append(slices.Clone(a.Boxes), slices.Repeat([]api.Sealed{mark}, 10)...)
			a.Boxes = behind[:10]
			before := copied(api.Algebra{Boxes: behind})
			plain := []byte("contents, and more")
			b, sealed, e := box.Seal(a, api.Tag{1}, 1, plain[:8])
			if e != api.OK || len(b.Boxes) != 11 {
				t.Errorf("free %v: Seal: %d, %d boxes", free, e, len(b.Boxes))
			}
			longer := append(sealed, " and more, again and again, and again and again"...)
			if opened, e := box.Open(b, api.Tag{1}, longer[:48]); string(opened) != "contents" || e != api.OK {
				t.Errorf("free %v: opened as %q, %d", free, opened, e)
			}
			if !same(api.Algebra{Boxes: behind}, before) || string(plain) != "contents, and more" || !strings.HasSuffix(string(longer), " and more, again and again, and again and again") {
				t.Errorf("free %v: memory behind an argument was written", free)
			}
		}
	}
}

// R3: an entry, the box that is returned, the bytes that were given, and the bytes that are opened share no memory.
func TestNoSharedMemory(t *testing.T) {
	key := api.Tag{1}
	spoil := func(b []byte) {
		for i := range b {
			b[i] ^= 255
		}
	}
	for _, free := range kinds {
		plain := []byte(text(50))
		a, sealed, _ := box.Seal(algebra.New(free, api.Tag{}), key, 1, plain)
		before, kept := copied(a), bytes.Clone(sealed)
		spoil(plain)
		spoil(sealed)
		_, again, _ := box.Seal(a, key, 1, []byte(text(50)))
		if !same(a, before) || !bytes.Equal(again, kept) {
			t.Errorf("free %v: the entry is %v, want %v", free, a.Boxes, before.Boxes)
		}
		spoil(again)
		opened, e := box.Open(a, key, kept)
		if string(opened) != text(50) || e != api.OK || !same(a, before) {
			t.Errorf("free %v: opened as %x, %d", free, opened, e)
		}
		spoil(opened)
		if reopened, e := box.Open(a, key, kept); string(reopened) != text(50) || e != api.OK || !same(a, before) || !bytes.Equal(kept, a.Boxes[0].Box) {
			t.Errorf("free %v: once more, opened as %x, %d", free, reopened, e)
		}
	}
}

// R3 and R4: calls with the same algebra may run at the same time.
func TestCallsAtTheSameTime(t *testing.T) {
	for _, free := range kinds {
		_, a := filled(free, 100)
		var results [8]api.Algebra
		var opened [8][]byte
		var group sync.WaitGroup
		for i := range results {
			group.Go(func() {
				b := a
				var sealed []byte
				for n := range 40 {
					b, sealed, _ = box.Seal(b, api.Tag{byte(i)}, n, []byte{byte(i), byte(n)})
				}
				results[i] = b
				opened[i], _ = box.Open(b, api.Tag{byte(i)}, sealed)
			})
		}
		group.Wait()
		for i, b := range results {
			if len(b.Boxes) != 140 || b.Boxes[100].Key != (api.Tag{byte(i)}) || !bytes.Equal(opened[i], []byte{byte(i), 39}) {
				t.Errorf("free %v: the algebra %d has %d boxes; the last one is opened as %x", free, i, len(b.Boxes), opened[i])
			}
		}
	}
}
