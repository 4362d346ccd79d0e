package haze

import (
	"math/rand"
	"slices"
	"testing"

	"apiary/api"
	"apiary/stamp"
)

// key is a key that begins with these bytes; those behind them are 0.
func key(first ...byte) api.Digest {
	var d api.Digest
	copy(d[:], first)
	return d
}

// marked is a key whose marks are these four bits.
func marked(a, b, c, d int) api.Digest {
	var first []byte
	for _, n := range []int{a, b, c, d} {
		first = append(first, byte(n/256), byte(n%256))
	}
	return key(first...)
}

// one is a key whose four marks are one and the same bit.
func one(n int) api.Digest { return marked(n, n, n, n) }

// has fails unless just these bits of a summary are set, in rising order.
func has(t *testing.T, what string, h api.Haze, want ...int) {
	t.Helper()
	var got []int
	for n := range 512 {
		if h[n/8]>>(n%8)%2 == 1 {
			got = append(got, n)
		}
	}
	if !slices.Equal(got, want) {
		t.Errorf("%s: the bits %v, not %v", what, got, want)
	}
	if Count(h) != len(want) {
		t.Errorf("%s: Count is %d, not %d", what, Count(h), len(want))
	}
}

// P14.1: the marks of one key: each of its pairs of bytes, the higher byte first, modulo 512.
func TestMarks(t *testing.T) {
	table := []struct {
		key  api.Digest
		want []int
	}{
		{key(0, 1, 0, 1, 0, 1, 2, 0), []int{0, 1}}, // the chapter's example
		{key(), []int{0}},
		{key(0, 1), []int{0, 1}},
		{key(0, 0, 0, 2), []int{0, 2}},
		{key(0, 0, 0, 0, 0, 3), []int{0, 3}},
		{key(0, 0, 0, 0, 0, 0, 0, 4), []int{0, 4}},
		{key(0, 1, 0, 2, 0, 3, 0, 4), []int{1, 2, 3, 4}},
		{key(0, 4, 0, 3, 0, 2, 0, 1), []int{1, 2, 3, 4}},
		{key(1, 0, 0, 255, 1, 1, 0, 128), []int{128, 255, 256, 257}},
		{key(1, 255, 2, 0, 2, 1, 3, 255), []int{0, 1, 511}},
		{key(255, 255, 254, 255, 255, 0, 254, 0), []int{0, 255, 256, 511}},
		{key(2, 7, 4, 7, 8, 7, 254, 7), []int{7}},
		{key(0, 7, 0, 8, 0, 15, 0, 16), []int{7, 8, 15, 16}},
		{key(0x12, 0x34, 0x56, 0x78, 0x9a, 0xbc, 0xde, 0xf0), []int{52, 120, 188, 240}},
		{stamp.Of("abc"), []int{120, 191, 257, 490}}, // BA78 16BF 8F01 CFEA
	}
	for _, c := range table {
		has(t, stamp.Hex(c.key), Of(c.key), c.want...)
		has(t, stamp.Hex(c.key), With(api.Haze{}, c.key), c.want...)
		if !Has(Of(c.key), c.key) {
			t.Errorf("%x isn't in its own summary", c.key)
		}
	}
}

// P14.1: each bit stands where the chapter says: the lowest one of a byte first.
func TestBits(t *testing.T) {
	for n := range 512 {
		var want api.Haze
		want[n/8] = []byte{1, 2, 4, 8, 16, 32, 64, 128}[n%8]
		for _, k := range []api.Digest{one(n), marked(n, n+512, n+1024, n+65024)} {
			if h := Of(k); h != want || Count(h) != 1 {
				t.Errorf("bit %d: %x", n, h)
			}
		}
	}
	if h := Of(marked(0, 7, 8, 511)); h != (api.Haze{0: 129, 1: 1, 63: 128}) {
		t.Errorf("0, 7, 8 and 511: %x", h)
	}
}

// P14.1: what stands behind a key's first 8 bytes doesn't matter, and each of these does.
func TestWhichBytes(t *testing.T) {
	base := marked(1, 2, 3, 4)
	for i := range 32 {
		other := base
		other[i] ^= 1
		if same := Of(other) == Of(base); same != (i >= 8) {
			t.Errorf("byte %d turned: the same summary: %v", i, same)
		}
	}
	// Of a pair's higher byte the lowest bit alone counts.
	for i := range 4 {
		for bit := 1; bit < 8; bit++ {
			other := base
			other[2*i] ^= 1 << bit
			if Of(other) != Of(base) {
				t.Errorf("bit %d of byte %d counts", bit, 2*i)
			}
		}
	}
}

// P14.1: several keys, some of them alike, and none.
func TestOfSeveral(t *testing.T) {
	a, b, c := marked(1, 2, 3, 4), marked(4, 5, 511, 5), one(100)
	has(t, "none", Of())
	has(t, "a", Of(a), 1, 2, 3, 4)
	has(t, "b", Of(b), 4, 5, 511)
	has(t, "a a", Of(a, a), 1, 2, 3, 4)
	has(t, "a b", Of(a, b), 1, 2, 3, 4, 5, 511)
	has(t, "b a", Of(b, a), 1, 2, 3, 4, 5, 511)
	has(t, "a b c a", Of(a, b, c, a), 1, 2, 3, 4, 5, 100, 511)
	has(t, "none to none", With(api.Haze{}))
	has(t, "none to a", With(Of(a)), 1, 2, 3, 4)
	has(t, "a to none", With(api.Haze{}, a), 1, 2, 3, 4)
	has(t, "a to a", With(Of(a), a), 1, 2, 3, 4)
	has(t, "c b to a", With(Of(a), c, b), 1, 2, 3, 4, 5, 100, 511)
}

// P14.1: any bytes are a summary; those that no key's marks are stay, too.
func TestWithOfAny(t *testing.T) {
	full := fullHaze()
	if h := With(full, one(9), marked(0, 1, 2, 3)); h != full {
		t.Errorf("more than all bits: %x", h)
	}
	all := everyBit()
	has(t, "full", full, all...)
	for n := range 512 {
		without := full
		without[n/8] &^= 1 << (n % 8)
		if Count(without) != 511 || Has(without, one(n)) || !Has(without, one((n+1)%512)) {
			t.Errorf("without bit %d: %d, %v", n, Count(without), Has(without, one(n)))
		}
		if h := With(without, one(n)); h != full {
			t.Errorf("with bit %d again: %x", n, h)
		}
	}
	has(t, "one more", With(api.Haze{5: 0x81}, one(3)), 3, 40, 47)
}

// fullHaze is the summary with all bits.
func fullHaze() api.Haze {
	var h api.Haze
	for i := range h {
		h[i] = 255
	}
	return h
}

func everyBit() []int {
	var list []int
	for n := range 512 {
		list = append(list, n)
	}
	return list
}

// P14.1: all bits of all of these, and of none none.
func TestJoin(t *testing.T) {
	a, b, c := api.Haze{0: 3, 9: 16}, api.Haze{0: 6, 63: 128}, api.Haze{30: 255}
	has(t, "none", Join())
	has(t, "empty", Join(api.Haze{}))
	has(t, "a", Join(a), 0, 1, 76)
	has(t, "a a", Join(a, a), 0, 1, 76)
	has(t, "a b", Join(a, b), 0, 1, 2, 76, 511)
	has(t, "b a", Join(b, a), 0, 1, 2, 76, 511)
	has(t, "empty a empty b", Join(api.Haze{}, a, api.Haze{}, b), 0, 1, 2, 76, 511)
	has(t, "a b c", Join(a, b, c), 0, 1, 2, 76, 240, 241, 242, 243, 244, 245, 246, 247, 511)
	has(t, "full", Join(a, fullHaze()), everyBit()...)
	var list []api.Haze
	for n := range 512 {
		list = append(list, Of(one(n)))
	}
	has(t, "each bit", Join(list...), everyBit()...)
}

// P14.1: a key is found if all its marks are set, whoever set them; not if one of them isn't.
func TestHas(t *testing.T) {
	k := marked(10, 20, 30, 511)
	set := []int{10, 20, 30, 511}
	for which := range 16 {
		var h api.Haze
		for i, n := range set {
			if which>>i%2 == 1 {
				h[n/8] |= 1 << (n % 8)
			}
		}
		for _, more := range []api.Haze{{}, Of(marked(9, 11, 19, 510)), Of(one(0), one(31))} {
			if got := Has(Join(h, more), k); got != (which == 15) {
				t.Errorf("with the marks of %04b: %v", which, got)
			}
		}
	}
	// Each of two keys has half of its marks: it is found, though nobody put it.
	if h := Of(marked(10, 20, 1, 2), marked(30, 511, 3, 4)); !Has(h, k) {
		t.Error("marks of two others")
	}
	if Has(api.Haze{}, key()) || Has(api.Haze{}, k) || !Has(fullHaze(), k) || !Has(api.Haze{1}, key()) {
		t.Error("of no bits, of all, of the first one")
	}
	// All bits but one mark: each of the four is asked for.
	for i, n := range set {
		h := fullHaze()
		h[n/8] &^= 1 << (n % 8)
		if Has(h, k) {
			t.Errorf("without mark %d", i)
		}
	}
}

// P14.1: Count, at each number of bits, wherever they stand.
func TestCount(t *testing.T) {
	r := rand.New(rand.NewSource(14))
	for range 20 {
		var h api.Haze
		for i, n := range r.Perm(512) {
			if Count(h) != i {
				t.Fatalf("Count: %d, not %d", Count(h), i)
			}
			h[n/8] |= 1 << (n % 8)
		}
		if Count(h) != 512 {
			t.Fatalf("Count: %d, not 512", Count(h))
		}
	}
	for b := range 256 {
		want := 0
		for n := range 8 {
			want += b >> n % 2
		}
		for _, at := range []int{0, 1, 31, 62, 63} {
			var h api.Haze
			h[at] = byte(b)
			if Count(h) != want {
				t.Errorf("Count of %d at %d: %d, not %d", b, at, Count(h), want)
			}
		}
	}
}

// P14.3: a key that was put is found in each summary that was made with it, and no bit is lost with more keys.
func TestFound(t *testing.T) {
	r := rand.New(rand.NewSource(143))
	for range 300 {
		keys := randomKeys(r, r.Intn(60))
		others := randomKeys(r, r.Intn(60))
		first, second := Of(keys...), Of(others...)
		both, more := Join(second, first), With(first, others...)
		if both != more || both != Join(first, second) || both != Of(slices.Concat(others, keys)...) {
			t.Fatal("joined, with more, and of all aren't the same")
		}
		for _, k := range keys {
			if !Has(first, k) || !Has(both, k) || !Has(With(second, k), k) || !Has(Join(api.Haze{}, second, Of(k)), k) {
				t.Fatalf("%x isn't found", k)
			}
		}
		for i, b := range both {
			if b != first[i]|second[i] {
				t.Fatalf("byte %d of %02x and %02x is %02x", i, first[i], second[i], b)
			}
		}
	}
}

// The chapter's head: a key that wasn't put is seldom found.
func TestSeldom(t *testing.T) {
	r := rand.New(rand.NewSource(3))
	found := 0
	for range 100 {
		h := Of(randomKeys(r, 24)...)
		for _, k := range randomKeys(r, 100) {
			if Has(h, k) {
				found++
			}
		}
	}
	if found > 100 {
		t.Errorf("of 10000 keys that weren't put %d are found", found)
	}
}

func randomKeys(r *rand.Rand, n int) []api.Digest {
	keys := make([]api.Digest, n)
	for i := range keys {
		r.Read(keys[i][:])
	}
	return keys
}

// P14.1: long lists, of the same and of many keys.
func TestLong(t *testing.T) {
	keys := make([]api.Digest, 1<<18)
	has(t, "zero keys", Of(keys...), 0)
	for i := range keys {
		keys[i] = one(i % 512)
	}
	has(t, "all marks", Of(keys...), everyBit()...)
	list := make([]api.Haze, 1<<16)
	list[len(list)-1] = api.Haze{63: 1}
	has(t, "joined", Join(list...), 504)
}

// Rule 3: lists that are handed in aren't changed, their spare room neither, nor is a summary that more keys come to.
func TestHandedIn(t *testing.T) {
	keys := []api.Digest{one(1), one(2), one(3), one(4)}
	list := []api.Haze{{0: 1}, {1: 1}, {2: 1}, {3: 1}}
	wereKeys, wasList := slices.Clone(keys), slices.Clone(list)
	for range 2 {
		has(t, "Of", Of(keys[:2]...), 1, 2)
		has(t, "With", With(list[0], keys[:2]...), 0, 1, 2)
		has(t, "Join", Join(list[:2]...), 0, 8)
		if !slices.Equal(keys, wereKeys) || !slices.Equal(list, wasList) {
			t.Errorf("%v and %v now", keys, list)
		}
	}
	h := Of(keys...)
	old := h
	With(h, one(200))
	Has(h, one(200))
	if h != old {
		t.Error("a summary that was handed in is another one")
	}
}
