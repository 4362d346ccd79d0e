package hedge

import (
	"math"
	"slices"
	"strings"
	"testing"

	"apiary/api"
	"apiary/stamp"
)

// key is a key that begins with these bytes; those behind them are 0.
func key(first ...byte) api.Digest {
	var d api.Digest
	copy(d[:], first)
	return d
}

// rec is a record of a key that begins with two bytes.
func rec(a, b byte, code int) api.Record {
	return api.Record{Key: key(a, b), Code: api.Errno(code)}
}

// span is a range of a depth and a prefix that says nothing of its records.
func span(depth, prefix int) api.Range { return api.Range{Depth: depth, Prefix: prefix} }

// width is how many prefixes a depth has, as the chapter says: 4^depth.
func width(depth int) int {
	return []int{1, 4, 16, 64, 256, 1024, 4096, 16384, 65536}[depth]
}

// ends are numbers at the ends of their type, and those that look small in fewer bits.
func ends() []int {
	return []int{math.MinInt, math.MinInt + 1, -1 << 32, -1 << 20, -9, -8, -1,
		1<<32 + 1, 1<<40 + 4, math.MaxInt - 1, math.MaxInt}
}

// wrong are ranges that can't be.
func wrong() []api.Range {
	list := []api.Range{
		span(9, 0), span(10, 0), span(16, 0), span(32, 0), span(64, 0), span(9, 1<<16),
		{Count: 1<<20 + 1}, {Count: 1<<20 + 2}, {Count: 1 << 21},
		{Depth: 8, Prefix: 65535, Count: 1<<20 + 1}, {Depth: 8, Prefix: 65535, Count: -1},
	}
	for depth := range 9 {
		list = append(list, span(depth, width(depth)), span(depth, width(depth)+1), span(depth, 4*width(depth)))
		for _, n := range ends() {
			list = append(list, span(depth, n))
		}
	}
	for _, n := range ends() {
		list = append(list, span(n, 0), span(n, 1), span(n, n), api.Range{Count: n}, api.Range{Depth: 1, Prefix: 3, Count: n})
	}
	return list
}

// has fails unless these are the records.
func has(t *testing.T, what string, got []api.Record, want ...api.Record) {
	t.Helper()
	if !slices.Equal(got, want) {
		t.Errorf("%s: %v, not %v", what, got, want)
	}
}

// of is a range that Of answers without an error.
func of(t *testing.T, depth, prefix int, list ...api.Record) api.Range {
	t.Helper()
	r, e := Of(depth, prefix, list...)
	if e != api.OK || r.Depth != depth || r.Prefix != prefix {
		t.Errorf("Of(%d, %d): %v, %d", depth, prefix, r, e)
	}
	return r
}

// P15.1: each depth has its prefixes, from 0 to 4^depth - 1; a count is from 0 to 2^20; any digest can be.
func TestGood(t *testing.T) {
	for depth := range 9 {
		for _, prefix := range []int{0, 1, 3, 4, 15, 16, 255, 4096, 65535} {
			if got := Good(span(depth, prefix)); got != (prefix < width(depth)) {
				t.Errorf("depth %d, prefix %d: %v", depth, prefix, got)
			}
		}
		for _, prefix := range []int{0, width(depth) / 2, width(depth) - 1} {
			for _, count := range []int{0, 1, 8, 1<<16 + 1, 1<<20 - 1, 1 << 20} {
				r := api.Range{Depth: depth, Prefix: prefix, Count: count}
				if !Good(r) {
					t.Errorf("not good: %v", r)
				}
				r.Sum = stamp.Of("any")
				if !Good(r) {
					t.Errorf("not good: %v", r)
				}
			}
		}
	}
	for _, r := range wrong() {
		if Good(r) {
			t.Errorf("good: %v", r)
		}
	}
}

// P15.1: a key is in the one range of each depth whose prefix its first pairs of bits make.
func TestIn(t *testing.T) {
	table := []struct {
		key  api.Digest
		want [9]int
	}{
		{key(0x1b), [9]int{0, 0, 1, 6, 27, 108, 432, 1728, 6912}}, // the chapter's example
		{key(), [9]int{}},
		{key(0xff, 0xff), [9]int{0, 3, 15, 63, 255, 1023, 4095, 16383, 65535}},
		{key(0xff), [9]int{0, 3, 15, 63, 255, 1020, 4080, 16320, 65280}},
		{key(0, 0xff), [9]int{0, 0, 0, 0, 0, 3, 15, 63, 255}},
		{key(0x40), [9]int{0, 1, 4, 16, 64, 256, 1024, 4096, 16384}},
		{key(0x80, 1), [9]int{0, 2, 8, 32, 128, 512, 2048, 8192, 32769}},
		{key(0, 0, 0xff), [9]int{}},
		{stamp.Of("abc"), [9]int{0, 2, 11, 46, 186, 745, 2983, 11934, 47736}}, // BA78..
	}
	for _, c := range table {
		for depth := range 9 {
			var in []int
			for prefix := range width(depth) {
				if In(span(depth, prefix), c.key) {
					in = append(in, prefix)
				}
			}
			if !slices.Equal(in, c.want[depth:depth+1]) {
				t.Errorf("%x at depth %d: in %v, not %d", c.key[:2], depth, in, c.want[depth])
			}
		}
	}
}

// P15.1: what stands behind a range's pairs of bits doesn't matter, and each bit of these does.
func TestWhichBits(t *testing.T) {
	base := stamp.Of("base")
	for depth := range 9 {
		at := int(base[0])<<8 | int(base[1])
		at /= width(8) / width(depth)
		if !In(span(depth, at), base) {
			t.Errorf("depth %d: %x isn't in %d", depth, base[:2], at)
		}
		for bit := range 256 {
			other := base
			other[bit/8] ^= 0x80 >> (bit % 8)
			if in := In(span(depth, at), other); in != (bit >= 2*depth) {
				t.Errorf("depth %d, bit %d turned: %v", depth, bit, in)
			}
		}
	}
}

// P15.1: what a range says of its records doesn't matter to which keys are in it, but that it can be.
func TestInOfCounts(t *testing.T) {
	k := key(0x1b)
	for _, count := range []int{0, 1, 77, 1 << 20} {
		r := api.Range{Depth: 4, Prefix: 27, Count: count, Sum: stamp.Of("any")}
		if !In(r, k) || In(r, key(0x1c)) {
			t.Errorf("count %d", count)
		}
	}
	for _, r := range wrong() {
		for _, k := range []api.Digest{{}, key(0x1b), key(0xff, 0xff), key(0, 1), key(0xff)} {
			if In(r, k) {
				t.Errorf("%x is in %v", k[:2], r)
			}
		}
	}
}

// P15.1: records by rising keys, at whatever byte these part; of several of one key the first one.
func TestSort(t *testing.T) {
	a, b, c, d := rec(0, 1, 1), rec(1, 0, 2), rec(0x7f, 0xff, 3), rec(0x80, 0, 4)
	has(t, "none", Sort())
	has(t, "one", Sort(c), c)
	has(t, "as they stand", Sort(a, b, c, d), a, b, c, d)
	has(t, "falling", Sort(d, c, b, a), a, b, c, d)
	has(t, "mixed", Sort(c, a, d, b), a, b, c, d)
	has(t, "one twice", Sort(c, c), c)
	again, other := rec(0, 1, 9), api.Record{Key: a.Key, Out: key(1)}
	has(t, "the first of three", Sort(d, a, again, b, other), a, b, d)
	has(t, "the first of three", Sort(other, d, again, b, a), other, b, d)
	has(t, "the first of three", Sort(again, other, a), again)
	for i := range 32 {
		low, high := rec(5, 5, 1), rec(5, 5, 0)
		low.Key[i], high.Key[i] = 6, 7
		if i < 31 {
			low.Key[i+1] = 200
		}
		has(t, "parted", Sort(high, low), low, high)
		has(t, "parted", Sort(low, high), low, high)
	}
}

// P15.1: many of few keys, so that none but the first of each one may come out, wherever they stand.
func TestSortKeepsFirst(t *testing.T) {
	var list, want []api.Record
	for i := range 700 {
		list = append(list, api.Record{Key: key(byte(i * 3 % 7)), Code: api.Errno(i)})
	}
	for k := range 7 {
		at := slices.IndexFunc(list, func(x api.Record) bool { return x.Key == key(byte(k)) })
		want = append(want, list[at])
	}
	has(t, "700 of 7 keys", Sort(list...), want...)
	has(t, "its records", Items(span(0, 0), list...), want...)
	has(t, "those of a part", Items(span(4, 5), list...), want[5])
}

// P15.2: without records the digest of an empty row, in each range that can be.
func TestOfNone(t *testing.T) {
	outside := []api.Record{rec(0xff, 0, 1), rec(0, 0, 1)}
	for depth := range 9 {
		for _, prefix := range []int{0, width(depth) / 2, width(depth) - 1} {
			want := api.Range{Depth: depth, Prefix: prefix, Sum: stamp.Of("\x00")}
			if r := of(t, depth, prefix); r != want {
				t.Errorf("Of(%d, %d): %v", depth, prefix, r)
			}
		}
		if r := of(t, 4, 27, outside...); r.Count != 0 || r.Sum != stamp.Row() {
			t.Errorf("none of these: %v", r)
		}
	}
}

// P15.2: a range's number of records and their digest, as bytes that are written out.
func TestOfBytes(t *testing.T) {
	k, m, out := key(0x1b, 1), key(0x1b, 2), key(9, 8)
	zero := strings.Repeat("\x00", 30)
	kText, mText, outText := "\x1b\x01"+zero, "\x1b\x02"+zero, "\x09\x08"+zero
	table := []struct {
		what  string
		list  []api.Record
		count int
		row   string
	}{
		{"a blob's", []api.Record{{Key: k, Out: out}}, 1, "\x01\x01" + "\x01\x41" + kText + "\x00" + outText},
		{"a code's", []api.Record{{Key: k, Code: 30}}, 1, "\x01\x01" + "\x01\x42" + kText + "\x01\x1e" + "\x00\x00" + zero},
		{"both", []api.Record{{Key: k, Code: 300, Out: out}}, 1, "\x01\x01" + "\x01\x43" + kText + "\x02\x01\x2c" + outText},
		{"below 0", []api.Record{{Key: k, Code: -1, Out: out}}, 1, "\x01\x01" + "\x01\x41" + kText + "\x80" + outText},
		{"two", []api.Record{{Key: m, Out: out}, {Key: k, Code: 5}}, 2,
			"\x01\x02" + "\x01\x42" + kText + "\x01\x05" + "\x00\x00" + zero + "\x01\x41" + mText + "\x00" + outText},
		{"one of two of a key", []api.Record{{Key: k, Out: out}, {Key: k, Code: 5}}, 1, "\x01\x01" + "\x01\x41" + kText + "\x00" + outText},
	}
	for _, c := range table {
		for depth, prefix := range []int{0, 0, 1, 6, 27, 108, 432, 1728} {
			want := api.Range{Depth: depth, Prefix: prefix, Count: c.count, Sum: stamp.Of(c.row)}
			if r := of(t, depth, prefix, c.list...); r != want {
				t.Errorf("%s, at depth %d: %v", c.what, depth, r)
			}
			more := append([]api.Record{rec(0xff, 0, 1)}, c.list...)
			if r := of(t, depth, prefix, more...); (r == want) != (depth > 0) {
				t.Errorf("%s and one more, at depth %d: %v", c.what, depth, r)
			}
		}
	}
	widest := api.Record{Key: k, Code: math.MaxInt, Out: out}
	if r := of(t, 0, 0, widest); r.Sum != stamp.Row(kText+"\x08\x7f\xff\xff\xff\xff\xff\xff\xff"+outText) {
		t.Error("the widest code")
	}
	widest.Code = math.MinInt
	if r := of(t, 0, 0, widest); r.Sum != stamp.Row(kText+"\x88\x7f\xff\xff\xff\xff\xff\xff\xff"+outText) {
		t.Error("the lowest code")
	}
}

// P15.2: ErrArg of a depth or prefix that can't be, and nothing beside it.
func TestOfWrong(t *testing.T) {
	list := []api.Record{rec(0, 0, 1), rec(0x1b, 0, 2), rec(0xff, 0xff, 3)}
	for _, x := range wrong() {
		r, e := Of(x.Depth, x.Prefix, list...)
		// Of a range that can't be just for its count, the depth and prefix can be.
		if x.Count != 0 {
			if e != api.OK || !Good(r) {
				t.Errorf("Of(%d, %d): %v, %d", x.Depth, x.Prefix, r, e)
			}
			continue
		}
		if r != (api.Range{}) || e != api.ErrArg {
			t.Errorf("Of(%d, %d): %v, %d", x.Depth, x.Prefix, r, e)
		}
		if r, e := Of(x.Depth, x.Prefix); r != (api.Range{}) || e != api.ErrArg {
			t.Errorf("Of(%d, %d) of none: %v, %d", x.Depth, x.Prefix, r, e)
		}
	}
}

// P15.2: a range's records as they stand; what it says of their number and digest doesn't matter.
func TestItems(t *testing.T) {
	list := []api.Record{rec(0xff, 0, 1), rec(0x1b, 1, 2), rec(0x1b, 0, 3), rec(0x1b, 1, 9), rec(0, 0, 4), rec(0x1c, 0, 5)}
	a, b, c, d, e := list[4], list[2], list[1], list[5], list[0]
	table := []struct {
		depth, prefix int
		want          []api.Record
	}{
		{0, 0, []api.Record{a, b, c, d, e}},
		{1, 0, []api.Record{a, b, c, d}},
		{1, 1, nil},
		{1, 2, nil},
		{1, 3, []api.Record{e}},
		{2, 0, []api.Record{a}},
		{2, 1, []api.Record{b, c, d}},
		{3, 6, []api.Record{b, c}},
		{3, 7, []api.Record{d}},
		{4, 27, []api.Record{b, c}},
		{7, 27 << 6, []api.Record{b, c}},
		{8, 27 << 8, []api.Record{b}},
		{8, 27<<8 + 1, []api.Record{c}},
		{8, 27<<8 + 2, nil},
		{8, 0, []api.Record{a}},
		{8, 0xff00, []api.Record{e}},
		{8, 0xffff, nil},
	}
	for _, x := range table {
		for _, count := range []int{0, 1, 1 << 20} {
			r := api.Range{Depth: x.depth, Prefix: x.prefix, Count: count, Sum: stamp.Of("any")}
			has(t, "Items", Items(r, list...), x.want...)
		}
		has(t, "Items of none", Items(span(x.depth, x.prefix)))
		if r := of(t, x.depth, x.prefix, list...); r.Count != len(x.want) {
			t.Errorf("Of(%d, %d): %v", x.depth, x.prefix, r)
		}
	}
	for _, r := range wrong() {
		has(t, "of a wrong range", Items(r, list...))
		has(t, "of a wrong range, none", Items(r))
	}
}

// P15.2: the four ranges of one pair of bits more, by rising prefixes, of the records that are handed in.
func TestParts(t *testing.T) {
	list := []api.Record{rec(0xff, 0, 1), rec(0x1b, 1, 2), rec(0x1b, 0, 3), rec(0x1b, 1, 9), rec(0, 0, 4), rec(0x1c, 0, 5)}
	for depth := range 8 {
		for _, prefix := range []int{0, 27 << 8 >> (16 - 2*depth), width(depth) / 2, width(depth) - 1} {
			var want []api.Range
			for pair := range 4 {
				want = append(want, of(t, depth+1, 4*prefix+pair, list...))
			}
			for _, count := range []int{0, 3, 1 << 20} {
				r := api.Range{Depth: depth, Prefix: prefix, Count: count, Sum: stamp.Of("any")}
				if got, e := Parts(r, list...); e != api.OK || !slices.Equal(got, want) {
					t.Errorf("Parts of %v: %v, %d", r, got, e)
				}
			}
		}
	}
	got, e := Parts(span(1, 2))
	if e != api.OK || len(got) != 4 {
		t.Fatal("Parts of none:", got, e)
	}
	for pair, r := range got {
		if r != (api.Range{Depth: 2, Prefix: 8 + pair, Sum: stamp.Of("\x00")}) {
			t.Errorf("part %d of none: %v", pair, r)
		}
	}
}

// P15.2: ErrArg of a range that can't be or that is as deep as can be, and nothing beside it.
func TestPartsWrong(t *testing.T) {
	deepest := []api.Range{span(8, 0), span(8, 27<<8), span(8, 65535), {Depth: 8, Count: 1, Sum: stamp.Of("any")}}
	for _, r := range slices.Concat(wrong(), deepest) {
		for _, list := range [][]api.Record{nil, {rec(0, 0, 1)}, {rec(0xff, 0xff, 1), rec(0x1b, 0, 2)}} {
			if parts, e := Parts(r, list...); e != api.ErrArg || len(parts) != 0 {
				t.Errorf("Parts of %v: %v, %d", r, parts, e)
			}
		}
	}
}

// P15.2: more records than a range can say that it has are counted all the same; what comes of it can't be.
func TestOfTooMany(t *testing.T) {
	list := make([]api.Record, 1<<20+1)
	for i := range list {
		list[i].Key = key(byte(i>>16), byte(i>>8), byte(i))
	}
	if r := of(t, 0, 0, list[:1<<20]...); r.Count != 1<<20 || !Good(r) {
		t.Error("the most that can be:", r)
	}
	r := of(t, 0, 0, list...)
	if r.Count != 1<<20+1 || Good(r) || In(r, list[0].Key) || len(Items(r, list...)) != 0 {
		t.Error("one more:", r)
	}
	if parts, e := Parts(r, list...); e != api.ErrArg || len(parts) != 0 {
		t.Error("one more:", parts, e)
	}
}

// Rules 3 and 4: what is handed in stays as it is, its spare room, too; what is answered is new memory.
func TestKept(t *testing.T) {
	room := []api.Record{rec(9, 0, 1), rec(3, 0, 2), rec(3, 0, 3), rec(1, 0, 4), rec(8, 0, 5), rec(2, 0, 6)}
	before := slices.Clone(room)
	list := room[:4]
	for range 2 {
		sorted, items := Sort(list...), Items(span(0, 0), list...)
		has(t, "Sort", sorted, before[3], before[1], before[0])
		has(t, "Items", items, before[3], before[1], before[0])
		parts, e := Parts(span(0, 0), list...)
		if e != api.OK || len(parts) != 4 || parts[0] != of(t, 1, 0, list...) {
			t.Error("Parts:", parts, e)
		}
		spoil(sorted, rec(7, 7, 7))
		has(t, "Items", items, before[3], before[1], before[0])
		spoil(items, rec(7, 7, 7))
		spoil(parts, api.Range{Depth: 7})
		has(t, "what was handed in", room, before...)
	}
	// A list that stands as it should already is answered in new memory, too.
	one := []api.Record{rec(1, 0, 1), rec(2, 0, 2)}
	spoil(Sort(one...), rec(7, 7, 7))
	spoil(Items(span(0, 0), one...), rec(7, 7, 7))
	has(t, "what was handed in", one, rec(1, 0, 1), rec(2, 0, 2))
}

// spoil writes over a list and its spare room.
func spoil[T any](list []T, by T) {
	list = list[:cap(list)]
	for i := range list {
		list[i] = by
	}
}
