package hedge

import (
	"crypto/sha256"
	"math"
	"math/big"
	"math/rand"
	"slices"
	"strconv"
	"strings"
	"testing"

	"apiary/api"
)

// modelBits is a key as 256 digits of base 2.
func modelBits(k api.Digest) string {
	var b strings.Builder
	for _, x := range k {
		s := strconv.FormatInt(int64(x), 2)
		b.WriteString(strings.Repeat("0", 8-len(s)) + s)
	}
	return b.String()
}

// modelIn reads a key's first digits as a number.
func modelIn(r api.Range, k api.Digest) bool {
	n, _ := strconv.ParseInt("0"+modelBits(k)[:2*r.Depth], 2, 64)
	return int(n) == r.Prefix
}

// modelGood makes the ends of a range in numbers without an end.
func modelGood(r api.Range) bool {
	if r.Depth < 0 || r.Depth > 8 {
		return false
	}
	most := new(big.Int).Exp(big.NewInt(4), big.NewInt(int64(r.Depth)), nil)
	prefix := big.NewInt(int64(r.Prefix))
	return prefix.Sign() >= 0 && prefix.Cmp(most) < 0 && r.Count >= 0 && r.Count <= 1048576
}

// modelSort takes the first record of each key, then the lowest one again and again, by the keys as texts.
func modelSort(list []api.Record) []api.Record {
	var firsts []api.Record
	for _, x := range list {
		if !slices.ContainsFunc(firsts, func(y api.Record) bool { return y.Key == x.Key }) {
			firsts = append(firsts, x)
		}
	}
	var sorted []api.Record
	for len(firsts) > 0 {
		low := 0
		for i, x := range firsts {
			if string(x.Key[:]) < string(firsts[low].Key[:]) {
				low = i
			}
		}
		sorted = append(sorted, firsts[low])
		firsts = slices.Delete(firsts, low, low+1)
	}
	return sorted
}

func modelItems(r api.Range, list []api.Record) []api.Record {
	var items []api.Record
	for _, x := range modelSort(list) {
		if modelGood(r) && modelIn(r, x.Key) {
			items = append(items, x)
		}
	}
	return items
}

// modelNum is a number's bytes, made of numbers without an end.
func modelNum(n int) []byte {
	mark, size := 0, big.NewInt(int64(n))
	if n < 0 {
		mark, size = 128, size.Not(size)
	}
	tail := size.Bytes()
	return append([]byte{byte(mark + len(tail))}, tail...)
}

// modelOf is a range whose digest is made by the library's SHA-256.
func modelOf(depth, prefix int, list []api.Record) api.Range {
	r := api.Range{Depth: depth, Prefix: prefix}
	items := modelItems(r, list)
	r.Count = len(items)
	row := modelNum(len(items))
	for _, x := range items {
		text := slices.Concat(x.Key[:], modelNum(int(x.Code)), x.Out[:])
		row = slices.Concat(row, modelNum(len(text)), text)
	}
	r.Sum = sha256.Sum256(row)
	return r
}

// nearRecords are records of few keys, some of which part late, some of which are the same.
func nearRecords(r *rand.Rand, n int) []api.Record {
	codes := []api.Errno{0, 0, 0, 30, 255, 256, 300, -1, -2, -257, math.MaxInt, math.MinInt}
	var list []api.Record
	for range n {
		k := key(byte(r.Intn(256))&0x91, byte(r.Intn(256))&0x83)
		k[r.Intn(32)] += byte(r.Intn(2))
		list = append(list, api.Record{Key: k, Code: codes[r.Intn(len(codes))], Out: key(byte(r.Intn(2)))})
	}
	return list
}

// nearRange is a range that often can be and has records, else any.
func nearRange(r *rand.Rand, list []api.Record) api.Range {
	x := api.Range{Depth: r.Intn(9), Count: r.Intn(3), Sum: key(byte(r.Intn(3)))}
	x.Prefix = r.Intn(width(x.Depth))
	if len(list) > 0 && r.Intn(4) > 0 {
		k := list[r.Intn(len(list))].Key
		n, _ := strconv.ParseInt("0"+modelBits(k)[:2*x.Depth], 2, 64)
		x.Prefix = int(n)
	}
	odd := []int{math.MinInt, -1, 0, 1, 3, 4, 8, 9, 65535, 65536, 1 << 20, 1<<20 + 1, math.MaxInt}
	switch r.Intn(12) {
	case 0:
		x.Depth = odd[r.Intn(len(odd))]
	case 1:
		x.Prefix = odd[r.Intn(len(odd))]
	case 2:
		x.Count = odd[r.Intn(len(odd))]
	}
	return x
}

// against fails unless all calls answer what the model does.
func against(t *testing.T, r api.Range, list []api.Record) {
	t.Helper()
	if Good(r) != modelGood(r) {
		t.Fatalf("Good(%v): %v", r, Good(r))
	}
	for _, x := range list {
		if In(r, x.Key) != (modelGood(r) && modelIn(r, x.Key)) {
			t.Fatalf("In(%v, %x): %v", r, x.Key, In(r, x.Key))
		}
	}
	has(t, "Sort", Sort(list...), modelSort(list)...)
	has(t, "Items", Items(r, list...), modelItems(r, list)...)
	againstOf(t, r.Depth, r.Prefix, list)
	againstParts(t, r, list)
}

func againstOf(t *testing.T, depth, prefix int, list []api.Record) {
	t.Helper()
	var want api.Range
	wantErr := api.ErrArg
	if modelGood(span(depth, prefix)) {
		want, wantErr = modelOf(depth, prefix, list), api.OK
	}
	if got, e := Of(depth, prefix, list...); got != want || e != wantErr {
		t.Fatalf("Of(%d, %d): %v, %d, not %v, %d", depth, prefix, got, e, want, wantErr)
	}
}

func againstParts(t *testing.T, r api.Range, list []api.Record) {
	t.Helper()
	var want []api.Range
	wantErr := api.ErrArg
	if modelGood(r) && r.Depth < 8 {
		wantErr = api.OK
		for pair := range 4 {
			want = append(want, modelOf(r.Depth+1, 4*r.Prefix+pair, list))
		}
	}
	if got, e := Parts(r, list...); !slices.Equal(got, want) || e != wantErr {
		t.Fatalf("Parts(%v): %v, %d, not %v, %d", r, got, e, want, wantErr)
	}
}

// P15.1 and P15.2: records and ranges at random against the model.
func TestAgainstModel(t *testing.T) {
	r := rand.New(rand.NewSource(15))
	for range 800 {
		list := nearRecords(r, r.Intn(20))
		for range 6 {
			against(t, nearRange(r, list), list)
		}
	}
}

// P15.3: from the whole down to the deepest ranges, the records of a range are those of its parts, one behind the other.
func TestPartsAreTheWhole(t *testing.T) {
	r := rand.New(rand.NewSource(153))
	for range 30 {
		list := nearRecords(r, r.Intn(40))
		level := []api.Range{of(t, 0, 0, list...)}
		for depth := range 9 {
			var all []api.Record
			var next []api.Range
			for _, x := range level {
				if x.Depth != depth || x != of(t, depth, x.Prefix, list...) {
					t.Fatalf("at depth %d: %v", depth, x)
				}
				items := Items(x, list...)
				all = append(all, items...)
				// The ranges without records are left out, but for some, since there are many.
				if parts, e := Parts(x, list...); e == api.OK && (len(items) > 0 || r.Intn(16) == 0) {
					next = append(next, parts...)
					hasParts(t, items, parts, list)
				}
			}
			has(t, "all of a depth", all, Sort(list...)...)
			level = next
		}
	}
}

// hasParts fails unless the records of four ranges, one behind the other, are these.
func hasParts(t *testing.T, items []api.Record, parts []api.Range, list []api.Record) {
	t.Helper()
	var together []api.Record
	count := 0
	for _, p := range parts {
		together = append(together, Items(p, list...)...)
		count += p.Count
	}
	has(t, "the four parts", together, items...)
	if len(parts) != 4 || count != len(items) {
		t.Errorf("%d parts of %d records, not %d", len(parts), count, len(items))
	}
}

// P15.3: two lists have one range just if they have the same records there; all pairs of the sets of some records.
func TestSameJustIfSame(t *testing.T) {
	some := []api.Record{
		{Key: key(0x1b, 0)}, {Key: key(0x1b, 0), Code: 1}, {Key: key(0x1b, 0), Out: key(1)},
		{Key: key(0x1b, 1)}, {Key: key(0x1b, 0, 1)}, {Key: key(0xe4), Code: 30},
	}
	var lists [][]api.Record
	for set := range 1 << len(some) {
		var list []api.Record
		for i, x := range some {
			if set>>i&1 == 1 {
				list = append(list, x)
			}
		}
		lists = append(lists, list)
	}
	places := []api.Range{span(0, 0), span(1, 0), span(1, 3), span(1, 2), span(4, 27), span(4, 228), span(8, 27<<8), span(8, 27<<8+1)}
	for _, at := range places {
		var ranges []api.Range
		var items [][]api.Record
		for _, list := range lists {
			ranges = append(ranges, of(t, at.Depth, at.Prefix, list...))
			items = append(items, modelItems(at, list))
		}
		for i, a := range lists {
			for j, b := range lists {
				if same := ranges[i] == ranges[j]; same != slices.Equal(items[i], items[j]) {
					t.Fatalf("%v and %v have one range at %d, %d: %v", a, b, at.Depth, at.Prefix, same)
				}
			}
		}
	}
}

// P15.3: each bit of each field of a record changes its ranges, and none in which it isn't.
func TestEachBitCounts(t *testing.T) {
	list := []api.Record{rec(0x1b, 0, 5), rec(0x1b, 3, 0), rec(0xe4, 0, 0)}
	list[1].Out = key(7)
	for i := range list {
		for bit := range 256 + 256 + 64 {
			other := slices.Clone(list)
			switch {
			case bit < 256:
				other[i].Key[bit/8] ^= 1 << (bit % 8)
			case bit < 512:
				other[i].Out[bit/8-32] ^= 1 << (bit % 8)
			default:
				other[i].Code ^= api.Errno(uint64(1) << (bit - 512))
			}
			for _, at := range []api.Range{span(0, 0), span(4, 27), span(4, 228), span(8, 27<<8), span(8, 27<<8+3)} {
				same := of(t, at.Depth, at.Prefix, list...) == of(t, at.Depth, at.Prefix, other...)
				if want := !modelIn(at, list[i].Key) && !modelIn(at, other[i].Key); same != want {
					t.Fatalf("record %d, bit %d: one range at %d, %d: %v", i, bit, at.Depth, at.Prefix, same)
				}
			}
		}
	}
}

// P15.2 and P15.3: the order in which records of other keys are handed in doesn't matter, nor what comes behind of a key.
func TestOrderIsNothing(t *testing.T) {
	r := rand.New(rand.NewSource(152))
	for range 200 {
		list := nearRecords(r, 1+r.Intn(12))
		firsts := modelSort(list)
		more := slices.Clone(firsts)
		r.Shuffle(len(more), func(i, j int) { more[i], more[j] = more[j], more[i] })
		for _, x := range firsts {
			x.Code++
			more = append(more, x)
		}
		at := nearRange(r, list)
		one, oneErr := Of(at.Depth, at.Prefix, list...)
		two, twoErr := Of(at.Depth, at.Prefix, more...)
		if one != two || oneErr != twoErr {
			t.Fatalf("%v and %v: %v, %v", list, more, one, two)
		}
	}
}

// P1: every call ends and none panics, at all arguments; a fuzz test's bytes are records, four bytes each.
func FuzzRanges(f *testing.F) {
	f.Add("", 0, 0, 0)
	f.Add("\x1b\x01\x02\x00\x1b\x00\x03\x00\x1b\x01\x09\x00\xff\x00\x01\x05", 4, 27, 2)
	f.Add("\x1b\x01\x02\x00\x1b\x01\xfe\x00", 8, 27<<8+1, 1<<20)
	f.Add("\x00\x00\x00\x00", math.MinInt, math.MaxInt, -1)
	f.Add("\xff\xff\xff\xff", 8, 65535, 1<<20+1)
	f.Fuzz(func(t *testing.T, text string, depth, prefix, count int) {
		var list []api.Record
		for ; len(text) >= 4 && len(list) < 60; text = text[4:] {
			x := rec(text[0], text[1], int(int8(text[2])))
			x.Key[2+text[3]%30], x.Out = text[3], key(text[3])
			list = append(list, x)
		}
		r := api.Range{Depth: depth, Prefix: prefix, Count: count}
		against(t, r, list)
		against(t, api.Range{Depth: depth, Prefix: prefix}, list)
		if parts, e := Parts(r, list...); e == api.OK {
			hasParts(t, Items(r, list...), parts, list)
		}
	})
}
