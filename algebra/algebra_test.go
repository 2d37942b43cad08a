package algebra_test

import (
	"bytes"
	"math"
	"math/rand/v2"
	"slices"
	"strings"
	"sync"
	"testing"

	"macaroon/algebra"
	"macaroon/api"
)

var (
	kinds = []bool{false, true} // of algebras: computed, free
	seed  = api.Tag{1, 2, 3, 31: 4}
)

// filled returns an algebra with n entries, whose messages are their indices in two bytes, and one box.
func filled(free bool, n int) api.Algebra {
	d := described{free: free, seed: seed, fresh: 7}
	for i := range n {
		d.calls = append(d.calls, call{api.Tag{9}, string([]byte{byte(i >> 8), byte(i)})})
	}
	a := d.algebra()
	a.Boxes = []api.Sealed{{Key: api.Tag{5}, Nonce: 6, Plain: []byte("plain"), Box: []byte("box")}}
	return a
}

// P10.1: New.
func TestNew(t *testing.T) {
	for _, free := range kinds {
		for _, seed := range []api.Tag{{}, seed, {255}} {
			if a := algebra.New(free, seed); !same(a, api.Algebra{Free: free, Seed: seed}) {
				t.Errorf("New(%v, %x) is %v", free, seed, a)
			}
		}
	}
}

// P10.1: the bytes of a symbol, written out.
func TestSymbolsWrittenOut(t *testing.T) {
	for _, c := range []struct {
		kind byte
		n    int
		want string
	}{
		{'m', 1, "symbolm\x00\x00\x00\x00\x00\x00\x00\x01"},
		{'k', 258, "symbolk\x00\x00\x00\x00\x00\x00\x01\x02"},
		{'b', 0x123456789abcdef, "symbolb\x01\x23\x45\x67\x89\xab\xcd\xef"},
		{'m', -1, "symbolm\xff\xff\xff\xff\xff\xff\xff\xff"},
		{0, 0, "symbol"},
		{255, -256, "symbol\xff\xff\xff\xff\xff\xff\xff\xff\x00"},
		{'x', math.MaxInt, "symbolx\x7f\xff\xff\xff\xff\xff\xff\xff"},
		{'x', math.MinInt, "symbolx\x80"},
	} {
		want := c.want + strings.Repeat("\x00", 32-len(c.want))
		if s := algebra.Symbol(c.kind, c.n); string(s[:]) != want {
			t.Errorf("Symbol(%d, %d) is %q, want %q", c.kind, c.n, s, want)
		}
	}
}

// P10.1: symbols of all kinds, and of numbers by lot; they are different.
func TestSymbols(t *testing.T) {
	lot := rand.New(rand.NewPCG(10, 1))
	seen := map[api.Tag]bool{}
	for kind := range 256 {
		numbers := map[int]bool{0: true, 1: true, -1: true, 65536: true, math.MaxInt: true, math.MinInt: true}
		for range 50 {
			numbers[int(lot.Uint64()>>lot.IntN(64))] = true
		}
		for n := range numbers {
			s := algebra.Symbol(byte(kind), n)
			if s != symbol(byte(kind), n) || seen[s] {
				t.Errorf("Symbol(%d, %d) is %x", kind, n, s)
			}
			seen[s] = true
		}
	}
}

// P10.1: fresh keys, written out.
func TestKeysWrittenOut(t *testing.T) {
	a := algebra.New(true, seed)
	for n := 1; n <= 300; n++ {
		b, key, e := algebra.Key(a)
		if key != algebra.Symbol('k', n) || e != api.OK || b.Fresh != n || a.Fresh != n-1 {
			t.Errorf("the fresh key %d is %x, %d; Fresh is %d", n, key, e, b.Fresh)
		}
		a = b
	}
	b, key, e := algebra.Key(algebra.New(false, seed))
	if want := computed(seed, "fresh\x00\x00\x00\x00\x00\x00\x00\x00\x01"); key != want || e != api.OK || b.Fresh != 1 {
		t.Errorf("the first fresh key is %x, %d; Fresh is %d", key, e, b.Fresh)
	}
}

// P10.1: all fresh keys that there can be are different, also under different seeds, and behind the last one is an error.
func TestAllKeys(t *testing.T) {
	for _, free := range kinds {
		seen := map[api.Tag]bool{}
		d := described{free: free, seed: seed}
		a := algebra.New(free, seed)
		for range 65536 {
			var want, key api.Tag
			d, want, _ = d.key()
			if a, key = mustKey(t, a); key != want || seen[key] {
				t.Fatalf("free %v: the fresh key %d is %x, want %x", free, a.Fresh, key, want)
			}
			seen[key] = true
		}
		if !same(a, api.Algebra{Free: free, Seed: seed, Fresh: 65536}) {
			t.Errorf("free %v: Fresh is %d", free, a.Fresh)
		}
		if b, key, e := algebra.Key(a); !same(b, api.Algebra{}) || key != (api.Tag{}) || e != api.ErrLimit {
			t.Errorf("free %v: behind the last one: %x, %d", free, key, e)
		}
		if _, key := mustKey(t, algebra.New(free, api.Tag{8})); seen[key] != free {
			t.Errorf("free %v: the fresh key with another seed is %x", free, key)
		}
	}
}

// P10.1: the limit of Key, in algebras with and without entries. No algebra has a Fresh out of its range, and what is said of one that has is that it does not lead to a panic, or to a key beside an error.
func TestLimitOfKey(t *testing.T) {
	for _, free := range kinds {
		for _, fresh := range []int{0, 1, 65534, 65535, 65536, 65537, 1 << 48, math.MaxInt, -1, -2, math.MinInt} {
			a := filled(free, 3)
			a.Fresh = fresh
			want := copied(a)
			want.Fresh++
			b, key, e := algebra.Key(a)
			switch {
			case fresh >= 65536 && e != api.ErrLimit, 0 <= fresh && fresh < 65536 && e != api.OK:
				t.Errorf("free %v: Key with Fresh %d: %d", free, fresh, e)
			case e != api.OK && (!same(b, api.Algebra{}) || key != (api.Tag{})):
				t.Errorf("free %v: Key with Fresh %d is %v and %x beside an error", free, fresh, b, key)
			case e == api.OK && (!same(b, want) || key == (api.Tag{})):
				t.Errorf("free %v: Key with Fresh %d is %v and %x", free, fresh, b, key)
			}
		}
	}
}

// P10.1 and P10.2: entries do not count as fresh keys, and fresh keys not as entries.
func TestKeysAndEntriesAreCountedApart(t *testing.T) {
	for _, free := range kinds {
		a := filled(free, 65536)
		if _, key := mustKey(t, a); key == (api.Tag{}) {
			t.Errorf("free %v: the key is zero", free)
		}
		b := filled(free, 2)
		b.Fresh = 65536
		if c, _ := mustMac(t, b, api.Tag{9}, "further"); len(c.Macs) != 3 || c.Fresh != 65536 {
			t.Errorf("free %v: %d entries, Fresh %d", free, len(c.Macs), c.Fresh)
		}
	}
}

// P10.2: the example: the first tag of a free algebra, the same once more, and a further one.
func TestTagsWrittenOut(t *testing.T) {
	key := api.Tag{9}
	for _, free := range kinds {
		one, two := computed(key, "one"), computed(key, "two")
		if free {
			one, two = algebra.Symbol('m', 1), algebra.Symbol('m', 2)
		}
		first := api.Mac{Key: key, Message: []byte("one"), Tag: one}
		second := api.Mac{Key: key, Message: []byte("two"), Tag: two}
		a := algebra.New(free, seed)
		b, x := mustMac(t, a, key, "one")
		c, y := mustMac(t, b, key, "one")
		d, z := mustMac(t, c, key, "two")
		if x != one || y != one || z != two {
			t.Errorf("free %v: the tags are %x, %x, %x", free, x, y, z)
		}
		if !same(a, algebra.New(free, seed)) ||
			!same(b, api.Algebra{Free: free, Seed: seed, Macs: []api.Mac{first}}) || !same(c, b) ||
			!same(d, api.Algebra{Free: free, Seed: seed, Macs: []api.Mac{first, second}}) {
			t.Errorf("free %v: %v, %v, %v, %v", free, a, b, c, d)
		}
	}
}

// P10.2: an entry is found by its whole key and its whole message, wherever it stands.
func TestEntriesAreFoundByKeyAndMessage(t *testing.T) {
	long := strings.Repeat("x", 4095)
	var calls []call
	for bit := range 256 {
		key := api.Tag{31: 77}
		key[bit/8] ^= 1 << (bit % 8)
		calls = append(calls, call{key, "message"})
	}
	for _, m := range []string{"", "\x00", "\x00\x00", "m", "message", "message\x00", "messagf", "nessage", "mess", long, long + "x", long + "y"} {
		calls = append(calls, call{api.Tag{31: 77}, m}, call{api.Tag{}, m})
	}
	for _, free := range kinds {
		d, a := described{free: free}, algebra.New(free, api.Tag{})
		for i, c := range calls {
			var tag api.Tag
			d.calls = append(d.calls, c)
			if a, tag = mustMac(t, a, c.key, c.message); tag != d.tag(i) || len(a.Macs) != i+1 {
				t.Errorf("free %v: the tag of the call %d is %x; there are %d entries", free, i, tag, len(a.Macs))
			}
		}
		for i, c := range calls {
			b, tag := mustMac(t, a, c.key, c.message)
			looked, ok := algebra.Look(a, c.key, []byte(c.message))
			if tag != d.tag(i) || looked != tag || !ok || !same(b, d.algebra()) {
				t.Errorf("free %v: once more, the tag of the call %d is %x, and %x, %v", free, i, tag, looked, ok)
			}
		}
	}
}

// P10.2 and P10.3: a message without bytes is one message, whether it is nil or empty.
func TestMessageWithoutBytes(t *testing.T) {
	for _, free := range kinds {
		for _, l := range [][2][]byte{{nil, {}}, {{}, nil}} {
			a, x, _ := algebra.Mac(algebra.New(free, seed), api.Tag{}, l[0])
			b, y, e := algebra.Mac(a, api.Tag{}, l[1])
			z, ok := algebra.Look(a, api.Tag{}, l[1])
			if x != y || z != x || !ok || e != api.OK || len(a.Macs) != 1 || len(b.Macs) != 1 {
				t.Errorf("free %v: %x, %x, %x; %d and %d entries", free, x, y, z, len(a.Macs), len(b.Macs))
			}
		}
	}
}

// P10.2 and P10.3: a message has at most MaxRecord bytes.
func TestLongMessages(t *testing.T) {
	for _, free := range kinds {
		a := filled(free, 2)
		for _, n := range []int{4095, 4096, 4097, 5000, 1 << 20} {
			message := bytes.Repeat([]byte{'x'}, n)
			b, tag, e := algebra.Mac(a, api.Tag{1}, message)
			if n <= 4096 && (e != api.OK || len(b.Macs) != 3 || !bytes.Equal(b.Macs[2].Message, message) || b.Macs[2].Tag != tag) {
				t.Errorf("free %v: Mac of %d bytes: %d", free, n, e)
			}
			if n > 4096 && (e != api.ErrLimit || !same(b, api.Algebra{}) || tag != (api.Tag{})) {
				t.Errorf("free %v: Mac of %d bytes: %x, %d", free, n, tag, e)
			}
			want := computed(api.Tag{1}, string(message))
			if free || n > 4096 {
				want = api.Tag{}
			}
			if tag, ok := algebra.Look(a, api.Tag{1}, message); tag != want || ok != (want != api.Tag{}) {
				t.Errorf("free %v: Look of %d bytes: %x, %v", free, n, tag, ok)
			}
		}
	}
}

// P10.2: the last entry that there can be, and a further one. An entry that is there is found in a full algebra, too.
func TestLimitOfMac(t *testing.T) {
	for _, free := range kinds {
		a := filled(free, 65535)
		full, tag := mustMac(t, a, api.Tag{9}, "last")
		want := computed(api.Tag{9}, "last")
		if free {
			want = algebra.Symbol('m', 65536)
		}
		if tag != want || len(full.Macs) != 65536 || !same(api.Algebra{Macs: full.Macs[:65535]}, api.Algebra{Macs: a.Macs}) {
			t.Errorf("free %v: the last tag is %x; there are %d entries", free, tag, len(full.Macs))
		}
		for _, c := range []call{{api.Tag{9}, "further"}, {api.Tag{}, "last"}, {api.Tag{9}, ""}, {api.Tag{9}, strings.Repeat("x", 4097)}} {
			if b, tag, e := algebra.Mac(full, c.key, []byte(c.message)); !same(b, api.Algebra{}) || tag != (api.Tag{}) || e != api.ErrLimit {
				t.Errorf("free %v: a further tag is %x, %d", free, tag, e)
			}
		}
		for _, i := range []int{0, 1, 40000, 65534, 65535} {
			m := full.Macs[i]
			b, tag, e := algebra.Mac(full, m.Key, m.Message)
			looked, ok := algebra.Look(full, m.Key, m.Message)
			if tag != m.Tag || e != api.OK || looked != tag || !ok || !same(b, full) {
				t.Errorf("free %v: the tag of the entry %d is %x, %d", free, i, tag, e)
			}
		}
	}
}

// P10.3: in a free algebra only what was made is found; in a computed one everything is.
func TestLook(t *testing.T) {
	for _, free := range kinds {
		a := filled(free, 300)
		before := copied(a)
		for _, key := range []api.Tag{{9}, {8}, {}, {9, 1}, algebra.Symbol('m', 1), a.Macs[0].Tag} {
			for i := -3; i < 303; i++ {
				message := string([]byte{byte(i >> 8), byte(i)})
				want := computed(key, message)
				if free {
					want = api.Tag{}
				}
				if free && key == (api.Tag{9}) && i >= 0 && i < 300 {
					want = algebra.Symbol('m', i+1)
				}
				if tag, ok := algebra.Look(a, key, []byte(message)); tag != want || ok != (want != api.Tag{}) {
					t.Errorf("free %v: Look of %x under %x is %x, %v", free, message, key, tag, ok)
				}
			}
		}
		if !same(a, before) {
			t.Errorf("free %v: Look has changed the algebra", free)
		}
	}
}

// P10.3: what is looked up before it is made: in a computed algebra the tag that it then gets, in a free one nothing, and neither makes an entry.
func TestLookBeforeMac(t *testing.T) {
	for _, free := range kinds {
		a := algebra.New(free, seed)
		before, ok := algebra.Look(a, api.Tag{3}, []byte("message"))
		if ok == free || len(a.Macs) != 0 {
			t.Errorf("free %v: %x, %v, %d entries", free, before, ok, len(a.Macs))
		}
		b, tag := mustMac(t, a, api.Tag{3}, "message")
		after, ok := algebra.Look(b, api.Tag{3}, []byte("message"))
		if after != tag || !ok || !free && before != tag || len(b.Macs) != 1 {
			t.Errorf("free %v: %x, then the tag %x, then %x, %v", free, before, tag, after, ok)
		}
		if _, ok := algebra.Look(a, api.Tag{3}, []byte("message")); ok == free {
			t.Errorf("free %v: the algebra before has the entry: %v", free, ok == free)
		}
	}
}

// P10.1 to P10.3: calls by lot, each from an algebra by lot that an earlier call returned, are compared with what the chapter describes; at the end all algebras are still as they were returned.
func TestCallsByLot(t *testing.T) {
	lot := rand.New(rand.NewPCG(10, 2))
	for _, free := range kinds {
		models := []described{{free: free, seed: seed}}
		algebras := []api.Algebra{algebra.New(free, seed)}
		tags := []api.Tag{{}, {1}}
		for step := range 2500 {
			i := lot.IntN(len(models))
			if step%4 > 0 {
				i = len(models) - 1
			}
			d, a := models[i], algebras[i]
			key := tags[max(0, len(tags)-1-lot.IntN(12))]
			message := strings.Repeat("ab", 3)[:lot.IntN(7)]
			wantTag, wantOK := d.look(key, message)
			if tag, ok := algebra.Look(a, key, []byte(message)); tag != wantTag || ok != wantOK {
				t.Fatalf("free %v, step %d: Look is %x, %v, want %x, %v", free, step, tag, ok, wantTag, wantOK)
			}
			var want, got api.Tag
			if lot.IntN(5) == 0 {
				d, want, _ = d.key()
				a, got = mustKey(t, a)
			} else {
				d, want, _ = d.mac(key, message)
				a, got = mustMac(t, a, key, message)
			}
			if got != want || !same(a, d.algebra()) {
				t.Fatalf("free %v, step %d: the tag is %x, want %x", free, step, got, want)
			}
			models, algebras, tags = append(models, d), append(algebras, a), append(tags, got)
		}
		for i, d := range models {
			if !same(algebras[i], d.algebra()) {
				t.Errorf("free %v: the algebra %d was changed later", free, i)
			}
		}
	}
}

// R3: algebras that follow the same one do not share their further entries, whatever the number of entries is.
func TestFollowersDoNotShareEntries(t *testing.T) {
	for _, free := range kinds {
		a := algebra.New(free, seed)
		for n := range 400 {
			var followers []api.Algebra
			for _, m := range []string{"p", "q", "r"} {
				b, _ := mustMac(t, a, api.Tag{9}, m)
				followers = append(followers, b)
			}
			for i, m := range []string{"p", "q", "r"} {
				if b := followers[i]; len(b.Macs) != n+1 || string(b.Macs[n].Message) != m {
					t.Errorf("free %v: behind %d entries, the entry of %q is %v", free, n, m, b.Macs[n])
				}
			}
			a, _ = mustMac(t, a, api.Tag{8}, string([]byte{byte(n >> 8), byte(n)}))
		}
	}
}

// R3: nothing is written into memory behind the entries of an argument, or behind its message.
func TestMemoryBehindArguments(t *testing.T) {
	for _, free := range kinds {
		for _, mark := range []api.Mac{{}, {Key: api.Tag{7}, Message: []byte("mark"), Tag: api.Tag{6}}} {
			a := filled(free, 10)
			behind := append(slices.Clone(a.Macs), slices.Repeat([]api.Mac{mark}, 10)...)
			a.Macs = behind[:10]
			before := copied(api.Algebra{Macs: behind})
			message := []byte("message, and more")
			b, _, e := algebra.Mac(a, api.Tag{1}, message[:7])
			_, _, f := algebra.Key(a)
			algebra.Look(a, api.Tag{1}, message[:7])
			if e != api.OK || f != api.OK || len(b.Macs) != 11 {
				t.Errorf("free %v: Mac: %d, %d entries; Key: %d", free, e, len(b.Macs), f)
			}
			if !same(api.Algebra{Macs: behind}, before) || string(message) != "message, and more" {
				t.Errorf("free %v: memory behind an argument was written", free)
			}
		}
	}
}

// R3: an entry does not refer to the message that was given.
func TestMessageIsNotKept(t *testing.T) {
	for _, free := range kinds {
		message := []byte("message")
		a, tag, _ := algebra.Mac(algebra.New(free, seed), api.Tag{1}, message)
		copy(message, "another")
		if string(a.Macs[0].Message) != "message" {
			t.Errorf("free %v: the entry has the message %q", free, a.Macs[0].Message)
		}
		b, further, _ := algebra.Mac(a, api.Tag{1}, message)
		if further == tag || len(b.Macs) != 2 {
			t.Errorf("free %v: the tag of another message is %x; there are %d entries", free, further, len(b.Macs))
		}
	}
}

// R3 and R4: calls with the same algebra may run at the same time.
func TestCallsAtTheSameTime(t *testing.T) {
	for _, free := range kinds {
		a, _ := mustMac(t, filled(free, 300), api.Tag{1}, "message")
		var results [8]api.Algebra
		var group sync.WaitGroup
		for i := range results {
			group.Go(func() {
				b := a
				for n := range 50 {
					b, _, _ = algebra.Mac(b, api.Tag{byte(i)}, []byte{byte(n)})
					b, _, _ = algebra.Key(b)
				}
				results[i] = b
			})
		}
		group.Wait()
		for i, b := range results {
			if len(b.Macs) != 351 || b.Fresh != 57 || b.Macs[301].Key != (api.Tag{byte(i)}) || b.Macs[350].Key != (api.Tag{byte(i)}) {
				t.Errorf("free %v: the algebra %d has %d entries", free, i, len(b.Macs))
			}
		}
	}
}

// P10.4: in a free algebra all tags are different from one another and from all fresh keys, up to the limits of both.
func TestFreeTagsAreDifferent(t *testing.T) {
	seen := map[api.Tag]bool{}
	a := filled(true, 65000)
	a.Fresh = 0
	for _, m := range a.Macs {
		seen[m.Tag] = true
	}
	for n := range 200 {
		var tag api.Tag
		if a, tag = mustMac(t, a, api.Tag{1}, string([]byte{byte(n)})); seen[tag] {
			t.Errorf("the tag %x occurs twice", tag)
		}
		seen[tag] = true
	}
	for range 65536 {
		var key api.Tag
		if a, key = mustKey(t, a); seen[key] {
			t.Errorf("the fresh key %x is a tag, or a fresh key before it", key)
		}
		seen[key] = true
	}
}

// names is what somebody has got from an algebra, in order: fresh keys and tags. What they do is said with the places of this list.
type names struct {
	algebra api.Algebra
	tags    []api.Tag
}

// act makes a fresh key (of -1), or the tag of a message under the tag with the index of, and keeps it.
func (x *names) act(t *testing.T, of int, message string) {
	t.Helper()
	var tag api.Tag
	if of < 0 {
		x.algebra, tag = mustKey(t, x.algebra)
	} else {
		x.algebra, tag = mustMac(t, x.algebra, x.tags[of], message)
	}
	x.tags = append(x.tags, tag)
}

// check reports whether the tag with the index claimed is looked up for a message.
func (x *names) check(of int, message string, claimed int) bool {
	tag, ok := algebra.Look(x.algebra, x.tags[of], []byte(message))
	return ok && tag == x.tags[claimed]
}

// P10.4: a computed algebra behaves as a free one: the same steps make the same number of entries, the same tags are equal, and the same checks succeed.
func TestComputedBehavesAsFree(t *testing.T) {
	lot := rand.New(rand.NewPCG(10, 3))
	for range 40 {
		x, y := &names{algebra: algebra.New(false, seed)}, &names{algebra: algebra.New(true, seed)}
		for step := range 40 {
			of, message := -1, "abc"[:lot.IntN(4)]
			if step > 0 && lot.IntN(4) > 0 {
				of = lot.IntN(step)
			}
			x.act(t, of, message)
			y.act(t, of, message)
			if len(x.algebra.Macs) != len(y.algebra.Macs) || x.algebra.Fresh != y.algebra.Fresh {
				t.Fatalf("step %d: %d and %d entries", step, len(x.algebra.Macs), len(y.algebra.Macs))
			}
			if i, j := slices.Index(x.tags, x.tags[step]), slices.Index(y.tags, y.tags[step]); i != j {
				t.Fatalf("step %d: the tag is that of the step %d, or %d", step, i, j)
			}
			if of >= 0 && !x.check(of, message, step) {
				t.Fatalf("step %d: the tag of %d and %q is not found", step, of, message)
			}
			for of := range step + 1 {
				message := "abc"[:lot.IntN(4)]
				for claimed := range step + 1 {
					if c, f := x.check(of, message, claimed), y.check(of, message, claimed); c != f {
						t.Fatalf("step %d: the check of %d, %q, %d is %v, or %v", step, of, message, claimed, c, f)
					}
				}
			}
		}
	}
}
