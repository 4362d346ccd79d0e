package glean

import (
	"math"
	"slices"
	"testing"

	"apiary/api"
	"apiary/hedge"
	"apiary/stamp"
)

// key is a key that begins with these bytes; those behind them are 0.
func key(first ...byte) api.Digest {
	var d api.Digest
	copy(d[:], first)
	return d
}

// rec is a record of a key that begins with two bytes.
func rec(a, b byte, code int) api.Record {
	return api.Record{Key: key(a, b), Code: api.Errno(code)}
}

// run is so many records whose keys begin with the byte a, by rising keys.
func run(a byte, n int) []api.Record {
	var list []api.Record
	for i := range n {
		list = append(list, api.Record{Key: key(a, 0, byte(i)), Out: key(byte(i))})
	}
	return list
}

// of is the range of a depth and a prefix that can be, of records.
func of(depth, prefix int, list ...api.Record) api.Range {
	r, e := hedge.Of(depth, prefix, list...)
	if e != api.OK {
		panic("no such range")
	}
	return r
}

// told is what an answer has.
type told struct {
	sums  []api.Range
	items []api.Record
	asks  []api.Range
}

func answer(theirs []api.Range, mine ...api.Record) told {
	sums, items, asks := Answer(theirs, mine...)
	return told{sums, items, asks}
}

// same fails unless two lists have the same elements.
func same[T comparable](t *testing.T, what string, got, want []T) {
	t.Helper()
	if !slices.Equal(got, want) {
		t.Errorf("%s: %v, not %v", what, got, want)
	}
}

// sameTold fails unless two answers are the same.
func sameTold(t *testing.T, what string, got, want told) {
	t.Helper()
	same(t, what+", sums", got.sums, want.sums)
	same(t, what+", items", got.items, want.items)
	same(t, what+", asks", got.asks, want.asks)
}

// wrong are ranges that can't be, of whatever records.
func wrong() []api.Range {
	list := []api.Range{
		{Depth: 9}, {Depth: 16}, {Depth: 64}, {Prefix: 1}, {Depth: 1, Prefix: 4}, {Depth: 8, Prefix: 1 << 16},
		{Count: 1<<20 + 1}, {Depth: 8, Prefix: 1<<16 - 1, Count: 1<<20 + 1},
	}
	for _, n := range []int{math.MinInt, -1 << 32, -1, 1<<40 + 4, math.MaxInt} {
		list = append(list, api.Range{Depth: n}, api.Range{Depth: 8, Prefix: n}, api.Range{Count: n}, api.Range{Depth: n, Prefix: n, Count: n})
	}
	return list
}

// P16.1: the one range of the depth 0, of the records as they stand.
func TestBegin(t *testing.T) {
	none := api.Range{Sum: stamp.Of("\x00")}
	same(t, "of none", Begin(), []api.Range{none})
	a, b := rec(0x1b, 1, 5), rec(0xff, 0, 0)
	same(t, "of one", Begin(a), []api.Range{of(0, 0, a)})
	same(t, "of two", Begin(a, b), []api.Range{of(0, 0, a, b)})
	same(t, "the other way", Begin(b, a), []api.Range{of(0, 0, a, b)})
	same(t, "two of a key", Begin(a, b, rec(0x1b, 1, 6)), []api.Range{of(0, 0, a, b)})
	if r := Begin(run(7, 200)...)[0]; r.Depth != 0 || r.Prefix != 0 || r.Count != 200 || r.Sum == none.Sum {
		t.Error("of 200:", r)
	}
}

// P16.2: of ranges that are one's own, at whatever depth: nothing.
func TestAnswerSame(t *testing.T) {
	mine := append(run(0x1b, 12), run(0xc0, 3)...)
	var theirs []api.Range
	for depth := range 9 {
		theirs = append(theirs, of(depth, 0x1b<<8>>(16-2*depth), mine...))
	}
	theirs = append(theirs, of(8, 0, mine...), of(1, 3, mine...), of(1, 2, mine...))
	sameTold(t, "one's own", answer(theirs, mine...), told{})
	sameTold(t, "one's own, mixed", answer(theirs, append(mine[5:], mine[:5]...)...), told{})
	sameTold(t, "of none", answer([]api.Range{of(0, 0), of(8, 9), of(4, 27)}), told{})
	sameTold(t, "nothing asked", answer(nil, mine...), told{})
	sameTold(t, "nothing at all", answer(nil), told{})
}

// P16.2: the same Count with another Sum isn't the same, nor is the same Sum with another Count.
func TestAnswerNotSame(t *testing.T) {
	mine := run(0x1b, 3)
	own := of(1, 0, mine...)
	sum, count := own, own
	sum.Sum[31] ^= 1
	count.Count++
	for _, r := range []api.Range{sum, count} {
		sameTold(t, "not the same", answer([]api.Range{r}, mine...), told{nil, mine, []api.Range{own}})
	}
	count.Count = 0
	sameTold(t, "none, of one's own digest", answer([]api.Range{count}, mine...), told{nil, mine, nil})
	odd := api.Range{Depth: 2, Prefix: 3}
	sameTold(t, "none of both, of another digest", answer([]api.Range{odd}, mine...), told{})
	odd.Count = 1
	sameTold(t, "one that one hasn't", answer([]api.Range{odd}, mine...), told{nil, nil, []api.Range{of(2, 3)}})
}

// P16.2: a small pair has together at most 8 records, or one of it none, or the depth 8; else the four parts.
func TestAnswerSmall(t *testing.T) {
	table := []struct {
		depth, theirs, mine int
		small               bool
	}{
		{0, 4, 4, true}, {0, 1, 7, true}, {0, 7, 1, true}, {0, 1, 1, true}, {0, 2, 5, true},
		{0, 5, 4, false}, {0, 4, 5, false}, {0, 1, 8, false}, {0, 8, 1, false}, {0, 12, 12, false},
		{0, 0, 9, true}, {0, 0, 16, true}, {0, 9, 0, true}, {0, 1 << 20, 0, true},
		{0, 1 << 20, 1, false}, {0, 7, 2, false}, {0, 8, 8, false},
		{4, 4, 4, true}, {4, 5, 4, false}, {7, 8, 0, true}, {7, 1, 8, false}, {7, 1 << 20, 9, false},
		{8, 5, 4, true}, {8, 1, 8, true}, {8, 1 << 20, 16, true}, {8, 8, 8, true}, {8, 9, 0, true},
	}
	for _, c := range table {
		mine := run(0x1b, c.mine)
		prefix := 0x1b00 >> (16 - 2*c.depth)
		r := api.Range{Depth: c.depth, Prefix: prefix, Count: c.theirs, Sum: key(1)}
		var want told
		if c.small {
			want.items = mine
			if c.theirs > 0 {
				want.asks = []api.Range{of(c.depth, prefix, mine...)}
			}
		} else {
			for pair := range 4 {
				want.sums = append(want.sums, of(c.depth+1, 4*prefix+pair, mine...))
			}
		}
		// Records beside the range aren't looked at.
		all := slices.Clone(mine)
		if c.depth > 0 {
			all = append(all, run(0xc0, 9)...)
		}
		sameTold(t, "a pair", answer([]api.Range{r}, backwards(all)...), want)
	}
}

// P16.2: ranges that can't be are passed over, and count for the first 16 of theirs.
func TestAnswerWrong(t *testing.T) {
	mine := run(0x1b, 3)
	other := api.Range{Count: 1, Sum: key(1)}
	want := told{nil, mine, []api.Range{of(0, 0, mine...)}}
	for _, r := range wrong() {
		sameTold(t, "can't be", answer([]api.Range{r}, mine...), told{})
		sameTold(t, "can't be, of none", answer([]api.Range{r}), told{})
		sameTold(t, "behind one that can't be", answer([]api.Range{r, other, r}, mine...), want)
		fifteen := slices.Repeat([]api.Range{r}, 15)
		sameTold(t, "the sixteenth", answer(append(fifteen, other, other), mine...), want)
		sameTold(t, "the seventeenth", answer(append(fifteen, r, other), mine...), told{})
	}
	sameTold(t, "behind 16 of one's own", answer(append(slices.Repeat(Begin(mine...), 16), other), mine...), told{})
}

// P16.2: the ranges are answered in the order in which they came, each one, though it came already or lies in another one.
func TestAnswerOrder(t *testing.T) {
	low, high := rec(0x1b, 0, 1), rec(0xff, 0, 2)
	mine := []api.Record{high, low}
	first, last, whole := of(1, 0, low), of(1, 3, high), of(0, 0, mine...)
	ask := func(r api.Range) api.Range {
		return api.Range{Depth: r.Depth, Prefix: r.Prefix, Count: 2, Sum: key(1)}
	}
	theirs := []api.Range{ask(last), ask(whole), ask(first), ask(last)}
	sameTold(t, "as they came", answer(theirs, mine...),
		told{nil, []api.Record{high, low, high, low, high}, []api.Range{last, whole, first, last}})
	// Small ones and others beside one another, and one that is the same between them.
	many := append(run(0, 9), low, high)
	wide := api.Range{Depth: 1, Count: 1, Sum: key(1)}
	got := answer([]api.Range{ask(last), wide, of(4, 0, many...), ask(of(4, 27))}, many...)
	sameTold(t, "of all kinds", got, told{
		[]api.Range{of(2, 0, many...), of(2, 1, many...), of(2, 2, many...), of(2, 3, many...)},
		[]api.Record{high, low}, []api.Range{last, of(4, 27, low)}})
}

// P16.2: of each of the three lists the first 16; a list that is full leaves the others as they are.
func TestAnswerMost(t *testing.T) {
	var mine []api.Record
	var wide, narrow []api.Range
	for i := range 16 {
		mine = append(mine, run(byte(16*i), 10)...)
		wide = append(wide, api.Range{Depth: 2, Prefix: i, Count: 1, Sum: key(1)})
		narrow = append(narrow, api.Range{Depth: 8, Prefix: 4096 * i, Count: 1, Sum: key(1)})
	}
	var parts, asks []api.Range
	for i := range 16 {
		parts = append(parts, of(3, i, mine...))
		asks = append(asks, of(8, 4096*i, mine...))
	}
	sameTold(t, "16 wide ones", answer(wide, mine...), told{parts, nil, nil})
	sameTold(t, "four wide ones", answer(wide[:4], mine...), told{parts, nil, nil})
	sameTold(t, "three wide ones", answer(wide[:3], mine...), told{parts[:12], nil, nil})
	sameTold(t, "16 narrow ones", answer(narrow, mine...), told{nil, mine[:16], asks})
	sameTold(t, "17 narrow ones", answer(append(narrow, api.Range{Depth: 8, Prefix: 1, Count: 1}), mine...), told{nil, mine[:16], asks})
	sameTold(t, "two narrow ones", answer(narrow[1:3], mine...), told{nil, mine[10:26], asks[1:3]})
	sameTold(t, "both", answer(append(slices.Clone(wide[:6]), narrow[:10]...), mine...), told{parts, mine[:16], asks[:10]})
	sameTold(t, "the others first", answer(append(slices.Clone(narrow[:10]), wide[:6]...), mine...), told{parts, mine[:16], asks[:10]})
	none := []api.Range{of(0, 0)}
	sameTold(t, "16 records", answer(none, mine[:16]...), told{nil, mine[:16], nil})
	sameTold(t, "15 records", answer(none, mine[:15]...), told{nil, mine[:15], nil})
	sameTold(t, "17 records, falling", answer(none, backwards(mine[:17])...), told{nil, mine[:16], nil})
}

// backwards is a list from its end on.
func backwards[T any](list []T) []T {
	other := slices.Clone(list)
	slices.Reverse(other)
	return other
}

// P16.2: of several records of one key it is the first one that is compared and told.
func TestAnswerFirstOfKey(t *testing.T) {
	a, b, c := rec(0x1b, 0, 1), rec(0x1b, 0, 2), rec(0x1b, 1, 3)
	sameTold(t, "the same", answer(Begin(a, c), a, b, c, a), told{})
	sameTold(t, "not the same", answer(Begin(a, c), b, a, c), told{nil, []api.Record{b, c}, Begin(b, c)})
}

// P16.2: more records than a range can say that it has: their parts and the first of them are told all the same.
func TestAnswerOfMany(t *testing.T) {
	list := make([]api.Record, 1<<20+1)
	for i := range list {
		list[i].Key = key(byte(i>>16), byte(i>>8), byte(i))
	}
	got := answer([]api.Range{{Count: 1}}, list...)
	if len(got.sums) != 4 || got.sums[0].Count != 1<<20+1 || got.sums[3] != of(1, 3) || len(got.items)+len(got.asks) != 0 {
		t.Error("the parts:", got)
	}
	got = answer([]api.Range{{}}, list...)
	sameTold(t, "the first", got, told{nil, list[:16], nil})
}

// P16.3: one's own records that are in one of the ranges, by rising keys, each once.
func TestFill(t *testing.T) {
	a, b, c, d := rec(0x1b, 0, 1), rec(0x1b, 1, 2), rec(0x1c, 0, 0), rec(0xff, 0, 4)
	mine := []api.Record{d, b, c, a, rec(0x1c, 0, 9)}
	table := []struct {
		what string
		asks []api.Range
		want []api.Record
	}{
		{"nothing", nil, nil},
		{"the whole", []api.Range{{}}, []api.Record{a, b, c, d}},
		{"a part", []api.Range{{Depth: 4, Prefix: 27}}, []api.Record{a, b}},
		{"two parts, falling", []api.Range{{Depth: 1, Prefix: 3}, {Depth: 8, Prefix: 0x1b01}}, []api.Record{b, d}},
		{"a part of a part", []api.Range{{Depth: 4, Prefix: 27}, {Depth: 8, Prefix: 0x1b00}, {Depth: 1}}, []api.Record{a, b, c}},
		{"one twice", []api.Range{{Depth: 1, Prefix: 3}, {Depth: 1, Prefix: 3}}, []api.Record{d}},
		{"a part without records", []api.Range{{Depth: 1, Prefix: 2}}, nil},
		{"whatever it says of its records", []api.Range{{Depth: 1, Prefix: 3, Count: 77, Sum: key(9)}}, []api.Record{d}},
		{"one's own", Begin(mine...), []api.Record{a, b, c, d}},
	}
	for _, x := range table {
		same(t, x.what, Fill(x.asks, nil, mine...), x.want)
		same(t, x.what+", of none", Fill(x.asks, mine), nil)
	}
}

// P16.3: those that stand in theirs just so aren't told; another one of their key is.
func TestFillTold(t *testing.T) {
	a, b, c := rec(0x1b, 0, 1), rec(0x1b, 1, 2), rec(0xff, 0, 3)
	code, out := a, a
	code.Code, out.Out = 9, key(1)
	all := []api.Range{{}}
	table := []struct {
		what   string
		theirs []api.Record
		want   []api.Record
	}{
		{"none", nil, []api.Record{a, b, c}},
		{"one", []api.Record{b}, []api.Record{a, c}},
		{"all, mixed, twice", []api.Record{c, a, c, b, a}, nil},
		{"others", []api.Record{rec(0x1b, 2, 1), rec(0, 0, 0)}, []api.Record{a, b, c}},
		{"another code", []api.Record{code, b}, []api.Record{a, c}},
		{"another blob", []api.Record{out, c}, []api.Record{a, b}},
		{"of two of its key the first one", []api.Record{a, code}, []api.Record{b, c}},
		{"of two of its key the second one", []api.Record{code, a}, []api.Record{b, c}},
		{"of three of its key none", []api.Record{code, out, rec(0x1b, 0, 8)}, []api.Record{a, b, c}},
	}
	for _, x := range table {
		same(t, x.what, Fill(all, x.theirs, c, a, b), x.want)
	}
	same(t, "one that doesn't stand", Fill(all, []api.Record{a}, a, code), nil)
	same(t, "one that stands ahead of it", Fill(all, []api.Record{a}, code, a), []api.Record{code})
	same(t, "told of a range that isn't asked for", Fill([]api.Range{{Depth: 1}}, []api.Record{c}, a, b, c), []api.Record{a, b})
}

// P16.3: the first 16 ranges that can be, though others stand ahead of them; the seventeenth isn't looked at.
func TestFillRanges(t *testing.T) {
	mine := []api.Record{rec(0x1b, 0, 1), rec(0xff, 0, 2)}
	low, high := api.Range{Depth: 4, Prefix: 27}, api.Range{Depth: 8, Prefix: 0xff00}
	for _, r := range wrong() {
		same(t, "can't be", Fill([]api.Range{r}, nil, mine...), nil)
		same(t, "behind one that can't be", Fill([]api.Range{r, low}, nil, mine...), mine[:1])
		same(t, "behind 30 that can't be", Fill(append(slices.Repeat([]api.Range{r}, 30), high, r), nil, mine...), mine[1:])
		asks := slices.Repeat([]api.Range{r, low, r}, 15)
		same(t, "the sixteenth that can be", Fill(append(asks, high), nil, mine...), mine)
		same(t, "the seventeenth", Fill(append(asks, low, high), nil, mine...), mine[:1])
	}
	empty := slices.Repeat([]api.Range{{Depth: 8}}, 15)
	same(t, "behind 15 without records", Fill(append(empty, low, high), nil, mine...), mine[:1])
}

// P16.3: the first 16 of them, behind those that the other one told.
func TestFillMost(t *testing.T) {
	mine := run(0x1b, 40)
	all := []api.Range{{}}
	for _, n := range []int{0, 1, 15, 16, 17, 40} {
		same(t, "of so many", Fill(all, nil, backwards(mine[:n])...), mine[:min(n, 16)])
		same(t, "behind so many", Fill(all, backwards(mine[:n]), mine...), mine[n:min(n+16, 40)])
	}
	same(t, "the last ones told", Fill(all, mine[16:], mine...), mine[:16])
	more := append(run(0x80, 10), mine...)
	same(t, "of two ranges", Fill([]api.Range{{Depth: 1, Prefix: 2}, {Depth: 1}}, mine[10:], more...), append(mine[:10:10], more[:6]...))
}

// Rules 3 and 4: what is handed in stays as it is, its spare room, too; what is answered is new memory.
func TestKept(t *testing.T) {
	records := append(run(0x1b, 9), run(0xff, 3)...)
	slices.Reverse(records)
	ranges := []api.Range{{Depth: 9}, {Depth: 1, Count: 1}, {Depth: 1, Prefix: 3, Count: 1}, {Depth: 4, Prefix: 27, Count: 1}}
	recordsBefore, rangesBefore := slices.Clone(records), slices.Clone(ranges)
	mine, theirs := records[:11], ranges[:3]
	var first told
	for range 3 {
		got := answer(theirs, mine...)
		if len(got.sums) != 4 || len(got.items) != 3 || len(got.asks) != 1 {
			t.Fatal("Answer:", got)
		}
		if len(first.sums) > 0 {
			sameTold(t, "again", got, first)
		}
		first = told{slices.Clone(got.sums), slices.Clone(got.items), slices.Clone(got.asks)}
		begun, all, none := Begin(mine...), Fill(theirs, nil, mine...), Fill(theirs, mine[:2], mine...)
		spoil(got.sums, api.Range{Depth: 7})
		same(t, "beside sums", got.asks, first.asks)
		spoil(got.asks, api.Range{Depth: 7})
		spoil(got.items, rec(7, 7, 7))
		spoil(begun, api.Range{Depth: 7})
		spoil(all, rec(7, 7, 7))
		spoil(none, rec(7, 7, 7))
		same(t, "records handed in", records, recordsBefore)
		same(t, "ranges handed in", ranges, rangesBefore)
	}
	// Lists that come out as they went in are new memory, too.
	sorted := slices.Clone(run(0x1b, 5))
	_, items, _ := Answer([]api.Range{{}}, sorted...)
	spoil(items, rec(7, 7, 7))
	spoil(Fill([]api.Range{{}}, sorted[:0], sorted...), rec(7, 7, 7))
	same(t, "records handed in", sorted, run(0x1b, 5))
}

// spoil writes over a list and its spare room.
func spoil[T any](list []T, by T) {
	list = list[:cap(list)]
	for i := range list {
		list[i] = by
	}
}
