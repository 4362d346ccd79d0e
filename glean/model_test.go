package glean

import (
	"math"
	"math/rand"
	"slices"
	"testing"

	"apiary/api"
	"apiary/hedge"
)

// modelAnswer goes through theirs one by one, and cuts the lists at the end.
func modelAnswer(theirs []api.Range, mine []api.Record) told {
	var got told
	for i := 0; i < len(theirs) && i < 16; i++ {
		r := theirs[i]
		if !hedge.Good(r) {
			continue
		}
		own := of(r.Depth, r.Prefix, mine...)
		items := hedge.Items(own, mine...)
		small := len(items)+r.Count < 9 || len(items) == 0 || r.Count == 0 || r.Depth == 8
		switch {
		case own == r:
		case small:
			got.items = append(got.items, items...)
			if r.Count != 0 {
				got.asks = append(got.asks, own)
			}
		default:
			for p := 4 * r.Prefix; p < 4*r.Prefix+4; p++ {
				got.sums = append(got.sums, of(r.Depth+1, p, mine...))
			}
		}
	}
	got.sums = got.sums[:min(16, len(got.sums))]
	got.items = got.items[:min(16, len(got.items))]
	got.asks = got.asks[:min(16, len(got.asks))]
	return got
}

// modelFill puts the records of each range together, and looks for each of one's own among them.
func modelFill(asks []api.Range, theirs, mine []api.Record) []api.Record {
	var asked, list []api.Record
	good := 0
	for _, r := range asks {
		if hedge.Good(r) && good < 16 {
			asked = append(asked, hedge.Items(r, mine...)...)
			good++
		}
	}
	for _, x := range hedge.Sort(mine...) {
		if slices.Index(asked, x) >= 0 && slices.Index(theirs, x) < 0 && len(list) < 16 {
			list = append(list, x)
		}
	}
	return list
}

// nearRecords are records of few keys, some of which part late, some of which are the same.
func nearRecords(r *rand.Rand, n int) []api.Record {
	masks := []byte{0xff, 0xc0, 0x11, 0x03, 0}
	a, b := masks[r.Intn(len(masks))], masks[r.Intn(len(masks))]
	var list []api.Record
	for range n {
		k := key(byte(r.Intn(256))&a, byte(r.Intn(256))&b, byte(r.Intn(12)))
		list = append(list, api.Record{Key: k, Code: api.Errno(r.Intn(2) * r.Intn(2))})
	}
	return list
}

// nearOthers are what another one may have: most of a list's records, some others, some turned.
func nearOthers(r *rand.Rand, list []api.Record) []api.Record {
	var others []api.Record
	for _, x := range list {
		switch r.Intn(6) {
		case 0:
		case 1:
			x.Out = key(1)
			others = append(others, x)
		default:
			others = append(others, x)
		}
	}
	return append(others, nearRecords(r, r.Intn(5))...)
}

// nearRanges are ranges that often can be, of others' records or of any.
func nearRanges(r *rand.Rand, n int, others []api.Record) []api.Range {
	odd := []int{math.MinInt, -1, 0, 1, 4, 7, 8, 9, 65535, 65536, 1 << 20, 1<<20 + 1, math.MaxInt}
	var list []api.Range
	for range n {
		x := api.Range{Depth: min(r.Intn(9), r.Intn(9))}
		x.Prefix = r.Intn(1 << (2 * x.Depth))
		if len(others) > 0 && r.Intn(4) > 0 {
			k := others[r.Intn(len(others))].Key
			x.Prefix = (int(k[0])*256 + int(k[1])) / (1 << (16 - 2*x.Depth))
		}
		x = of(x.Depth, x.Prefix, others...)
		switch r.Intn(16) {
		case 0:
			x.Depth = odd[r.Intn(len(odd))]
		case 1:
			x.Prefix = odd[r.Intn(len(odd))]
		case 2, 3:
			x.Count = odd[r.Intn(len(odd))]
		}
		list = append(list, x)
	}
	return list
}

// against fails unless all calls answer what the model does.
func against(t *testing.T, ranges []api.Range, theirs, mine []api.Record) {
	t.Helper()
	same(t, "Begin", Begin(mine...), []api.Range{of(0, 0, mine...)})
	sameTold(t, "Answer", answer(ranges, mine...), modelAnswer(ranges, mine))
	same(t, "Fill", Fill(ranges, theirs, mine...), modelFill(ranges, theirs, mine))
}

// P16.1 to P16.3: records and ranges at random against the model.
func TestAgainstModel(t *testing.T) {
	r := rand.New(rand.NewSource(16))
	for range 600 {
		mine := nearRecords(r, r.Intn(40))
		theirs := nearOthers(r, mine)
		for range 4 {
			against(t, nearRanges(r, r.Intn(24), theirs), theirs[r.Intn(len(theirs)+1):], mine)
		}
		if t.Failed() {
			t.Fatal(mine, theirs)
		}
	}
}

// store is a node's records, of one key the first one that it had.
type store struct {
	list []api.Record
	// early: whether it keeps what it is told ahead of telling its own.
	early bool
}

func (s *store) knows(k api.Digest) bool {
	return slices.ContainsFunc(s.list, func(x api.Record) bool { return x.Key == k })
}

func (s *store) keep(items []api.Record) {
	for _, x := range items {
		if !s.knows(x.Key) {
			s.list = append(s.list, x)
		}
	}
}

// heard is what comes to a node: ranges to look into, or records and ranges that are asked for.
type heard struct {
	at    int
	sums  []api.Range
	items []api.Record
	asks  []api.Range
}

// hear is what a node sends when something comes to it.
func (s *store) hear(h heard) []heard {
	var sent []heard
	other := 1 - h.at
	if len(h.sums) > 0 {
		sums, items, asks := Answer(h.sums, s.list...)
		if len(sums) > 0 {
			sent = append(sent, heard{at: other, sums: sums})
		}
		if len(items)+len(asks) > 0 {
			sent = append(sent, heard{at: other, items: items, asks: asks})
		}
		return sent
	}
	if s.early {
		s.keep(h.items)
	}
	fill := Fill(h.asks, h.items, s.list...)
	s.keep(h.items)
	if len(fill) > 0 {
		sent = append(sent, heard{at: other, items: fill})
	}
	return sent
}

// turn is one talk of two nodes, which a node begins: how often something was sent behind its beginning.
func turn(t *testing.T, nodes [2]*store, first int) int {
	t.Helper()
	line := []heard{{at: 1 - first, sums: Begin(nodes[first].list...)}}
	sent := -1
	for ; len(line) > 0; sent++ {
		if sent > 200 {
			t.Fatal("a talk without an end")
		}
		h := line[0]
		if len(h.sums) > 16 || len(h.items) > 16 || len(h.asks) > 16 {
			t.Fatal("a frame that can't be:", h)
		}
		line = append(line[1:], nodes[h.at].hear(h)...)
	}
	return sent
}

// sameKeys: whether two nodes know the same keys.
func sameKeys(a, b *store) bool {
	missing := func(x api.Record) bool { return !b.knows(x.Key) }
	return len(a.list) == len(b.list) && !slices.ContainsFunc(a.list, missing)
}

// turnsOf is after how many turns two nodes know the same keys; those that they had they have as they were.
func turnsOf(t *testing.T, a, b []api.Record, early bool) int {
	t.Helper()
	nodes := [2]*store{{early: early}, {early: early}}
	nodes[0].keep(a)
	nodes[1].keep(b)
	before := [2][]api.Record{slices.Clone(nodes[0].list), slices.Clone(nodes[1].list)}
	turns := 0
	for ; !sameKeys(nodes[0], nodes[1]) && turns <= 40; turns++ {
		turn(t, nodes, turns%2)
	}
	for i, s := range nodes {
		same(t, "what it had", s.list[:len(before[i])], before[i])
		for _, x := range s.list[len(before[i]):] {
			if !slices.Contains(before[1-i], x) {
				t.Fatalf("%v comes from nowhere", x)
			}
		}
	}
	if turns > 40 {
		t.Fatalf("%v and %v: no end", a, b)
	}
	return turns
}

// P16.4: two nodes with at most 16 records each, of keys near and far, some of which both have, as they are or others.
func TestTalks(t *testing.T) {
	r := rand.New(rand.NewSource(164))
	most := 0
	for range 2500 {
		a := nearRecords(r, r.Intn(17))
		b := nearOthers(r, a)
		if r.Intn(2) == 0 {
			b = nearRecords(r, r.Intn(17))
		}
		r.Shuffle(len(b), func(i, j int) { b[i], b[j] = b[j], b[i] })
		b = b[:min(len(b), 16)]
		most = max(most, turnsOf(t, a, b, r.Intn(2) == 0))
	}
	if most == 0 {
		t.Error("none had anything to tell")
	}
}

// P16.4: 16 records each at the edges: all of one range of the depth 8, all far, none of one node, all of other results.
func TestTalkEdges(t *testing.T) {
	var far, turned []api.Record
	for i := range 16 {
		far = append(far, rec(byte(16*i), 0, 0))
	}
	low, high := run(0x1b, 32)[:16], run(0x1b, 32)[16:]
	for _, x := range low {
		x.Code = 9
		turned = append(turned, x)
	}
	odd, even := []api.Record{}, []api.Record{}
	for i, x := range run(0x1b, 32) {
		if i%2 == 0 {
			even = append(even, x)
		} else {
			odd = append(odd, x)
		}
	}
	lists := [][]api.Record{nil, far, low, high, turned, odd, even, low[:1], far[15:], append(turned[:8:8], high[:8]...)}
	for _, a := range lists {
		for _, b := range lists {
			for _, early := range []bool{false, true} {
				turnsOf(t, a, b, early)
			}
		}
	}
}

// P16.4: all pairs of the sets of some records, two of which have one key.
func TestTalkOfAllSets(t *testing.T) {
	some := []api.Record{rec(0x1b, 0, 0), rec(0x1b, 1, 0), rec(0x1b, 1, 7), rec(0xff, 0, 0), rec(0, 0, 5)}
	some[1].Key[31] = 1
	var sets [][]api.Record
	for set := range 1 << len(some) {
		var list []api.Record
		for i, x := range some {
			if set>>i&1 == 1 {
				list = append(list, x)
			}
		}
		sets = append(sets, list)
	}
	for _, a := range sets {
		for _, b := range sets {
			if n := turnsOf(t, a, b, false); n > 1 {
				t.Fatalf("%v and %v: %d turns", a, b, n)
			}
		}
	}
}

// P16.4: with the same records they tell each other nothing.
func TestTalkOfSame(t *testing.T) {
	r := rand.New(rand.NewSource(165))
	for range 300 {
		list := hedge.Sort(nearRecords(r, r.Intn(17))...)
		nodes := [2]*store{{list: list}, {list: backwards(list)}}
		if sent := turn(t, nodes, r.Intn(2)); sent != 0 {
			t.Fatalf("%v: %d", list, sent)
		}
	}
}

// P16.4: the chapter's example: one record each, the other one answers with its own, and asks; the first one fills.
func TestTalkOfExample(t *testing.T) {
	a, b := rec(0x1b, 0, 0), rec(0xff, 0, 0)
	sums, items, asks := Answer(Begin(a), b)
	sameTold(t, "the answer", told{sums, items, asks}, told{nil, []api.Record{b}, []api.Range{of(0, 0, b)}})
	same(t, "what is filled", Fill(asks, items, a), []api.Record{a})
	same(t, "what is filled, once it has both", Fill(asks, items, a, b), []api.Record{a})
}

// P1: every call ends and none panics, at all arguments; a fuzz test's bytes are records and ranges, four bytes each.
func FuzzCalls(f *testing.F) {
	f.Add("", "", "", uint8(0))
	f.Add("\x1b\x00\x01\x00\x1b\x00\x02\x00\xff\x00\x00\x09", "\x1b\x00\x01\x00", "\x00\x00\x00\x01\x04\x00\x1b\x03", uint8(3))
	f.Add("\x1b\x00\x01\x00\x1b\x00\x01\x01\x1b\x00\x01\x02\x1b\x00\x01\x03\x1b\x00\x01\x04", "", "\x00\x00\x00\x04\x08\x1b\x00\xff\x09\x00\x00\x00", uint8(9))
	f.Fuzz(func(t *testing.T, mineText, theirsText, rangeText string, turned uint8) {
		mine, theirs := readRecords(mineText), readRecords(theirsText)
		var ranges []api.Range
		for ; len(rangeText) >= 4 && len(ranges) < 40; rangeText = rangeText[4:] {
			x := api.Range{Depth: int(int8(rangeText[0])), Prefix: int(rangeText[1])<<8 | int(rangeText[2]), Count: int(int8(rangeText[3]))}
			if hedge.Good(x) && rangeText[3]%2 == 0 {
				x = of(x.Depth, x.Prefix, theirs...)
			}
			ranges = append(ranges, x)
		}
		against(t, ranges, theirs, mine)
		turnsOf(t, mine[:min(16, len(mine))], theirs[:min(16, len(theirs))], turned%2 == 0)
	})
}

// readRecords are records of four bytes each: three of the key, one of the code.
func readRecords(text string) []api.Record {
	var list []api.Record
	for ; len(text) >= 4 && len(list) < 60; text = text[4:] {
		x := rec(text[0], text[1], int(int8(text[3])))
		x.Key[2] = text[2]
		list = append(list, x)
	}
	return list
}
