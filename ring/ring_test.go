package ring

import (
	"math"
	"slices"
	"testing"

	"apiary/api"
	"apiary/stamp"
)

// keyAt is a key whose place is this one; what stands behind its place is the same byte over and over.
func keyAt(place uint64, rest byte) api.Digest {
	var key api.Digest
	for i := range key {
		key[i] = rest
	}
	for i := range 8 {
		key[i] = byte(place >> (56 - 8*i))
	}
	return key
}

// everyone is all nodes that can be.
func everyone() []int { return []int{1, 2, 3, 4, 5, 6} }

// points are all nodes' points, worked out by another program.
func points() [6][8]uint64 {
	return [6][8]uint64{
		{0x9b13da6592aca0b6, 0x680a67786328594d, 0x9d96ee26a29c9ce4, 0x234c45e9e538d3a8, 0x7ffaacfc8b8174f9, 0x675a52a1c4667955, 0x1aeb56e82c34a113, 0x0d69fec842cb822d},
		{0x0e617d6adced81c9, 0x065a3ddd3418072e, 0x4bec00c27fe1a2f0, 0x8fa48d430dff4ac3, 0xe248b43eddb91394, 0xb591d94ff70f257c, 0xe9824e1b9af05241, 0x75072d7fa6bb038e},
		{0xc13208457c1267b8, 0x90614d94073f81fc, 0x4731c0679fd7d584, 0x15c66d3832ef2661, 0x8f8f4e7b737803be, 0x369ed286504dadda, 0x69094a5cef9c692a, 0x727f172ae2b5131d},
		{0x5e8a23b5fa90a664, 0xbdf2b72acbf93780, 0xf1e12f934245d942, 0x0174a86cc251c812, 0x1bfb5ddb1ad9b8e0, 0x0349d2a8e1f7b0b4, 0x3a0ffff1f31ff275, 0x7affbd0b0c26b768},
		{0x46f99fbda5b7080d, 0x9fe1e6ce8d23e0db, 0x4831d2d81a7aae06, 0x5d3c044a4bdbeed8, 0xe7488730e95a3137, 0x76c336ec781af24d, 0xfb3ada1e502d800e, 0x5aab8244e77590bd},
		{0x36a0df7c1c46f73a, 0xb8938a6b39e2a00d, 0xe38bc98cb6b6a340, 0x782107b181a91e9f, 0xe23d4391ac4bcaef, 0x1e49679134394426, 0x4f4fc8784c8469f2, 0x21d01f924754a5ca},
	}
}

// P13.1: all points that there are, from the first node's first one to the last node's last one.
func TestPoint(t *testing.T) {
	for i, row := range points() {
		for n, want := range row {
			if p, e := Point(i+1, n); p != want || e != api.OK {
				t.Errorf("Point(%d, %d): %x, %d, not %x", i+1, n, p, e, want)
			}
		}
	}
	if p, e := Point(2, 5); p != Place(stamp.Row("ring", "\x01\x02", "\x01\x05")) || e != api.OK {
		t.Errorf("Point(2, 5): %x, %d", p, e)
	}
	// Of 0 there are no bytes behind the count.
	if p, e := Point(6, 0); p != Place(stamp.Row("ring", "\x01\x06", "\x00")) || e != api.OK {
		t.Errorf("Point(6, 0): %x, %d", p, e)
	}
}

// P13.1: numbers of nodes and of points beside their ends, far off, and at the ends of their type.
func TestPointOfWrong(t *testing.T) {
	nodes := []int{math.MinInt, -6, -1, 0, 7, 8, 1<<8 + 1, 1<<32 + 1, math.MaxInt}
	ns := []int{math.MinInt, -8, -1, 8, 9, 1 << 8, 1 << 32, 1<<32 + 7, math.MaxInt}
	refused := func(node, n int) {
		if p, e := Point(node, n); p != 0 || e != api.ErrArg {
			t.Errorf("Point(%d, %d): %x, %d", node, n, p, e)
		}
	}
	for _, node := range nodes {
		for n := range 8 {
			refused(node, n)
		}
		for _, n := range ns {
			refused(node, n)
		}
	}
	for _, n := range ns {
		for _, node := range everyone() {
			refused(node, n)
		}
	}
}

// P13.1: the first 8 bytes, the highest first, and no other one.
func TestPlace(t *testing.T) {
	table := []struct {
		key  api.Digest
		want uint64
	}{
		{api.Digest{}, 0},
		{api.Digest{1, 2, 3, 4, 5, 6, 7, 8, 9}, 0x0102030405060708},
		{api.Digest{0, 0, 0, 0, 0, 0, 0, 1}, 1},
		{api.Digest{0, 0, 0, 0, 0, 0, 0, 0, 1}, 0},
		{api.Digest{1}, 1 << 56},
		{api.Digest{0x80}, 1 << 63},
		{api.Digest{0, 0, 0, 0x80}, 1 << 39},
		{api.Digest{255, 255, 255, 255, 255, 255, 255, 255}, math.MaxUint64},
		{api.Digest{255, 255, 255, 255, 255, 255, 255, 254, 255}, math.MaxUint64 - 1},
		{stamp.Of("abc"), 0xba7816bf8f01cfea},
	}
	for _, c := range table {
		if got := Place(c.key); got != c.want {
			t.Errorf("Place(%x): %x, not %x", c.key, got, c.want)
		}
	}
	for i := range 32 {
		var key api.Digest
		key[i] = 0xA5
		want := uint64(0)
		if i < 8 {
			want = 0xA5 << (56 - 8*i)
		}
		if got := Place(key); got != want {
			t.Errorf("byte %d: %x, not %x", i, got, want)
		}
	}
}

// walks fails unless the nodes come in this order, and the first two of them own the key.
func walks(t *testing.T, key api.Digest, nodes []int, want ...int) {
	t.Helper()
	if got := Walk(key, nodes...); !slices.Equal(got, want) {
		t.Errorf("Walk(%x, %v): %v, not %v", key[:9], nodes, got, want)
	}
	if got := Owns(key, nodes...); !slices.Equal(got, want[:min(2, len(want))]) {
		t.Errorf("Owns(%x, %v): %v, not the first two of %v", key[:9], nodes, got, want)
	}
}

// P13.2: orders that were worked out by another program, at the ends of the ring, too.
func TestWalk(t *testing.T) {
	table := []struct {
		place    uint64
		all, odd []int
	}{
		{0, []int{4, 2, 1, 3, 6, 5}, []int{1, 3, 5}},
		{1, []int{4, 2, 1, 3, 6, 5}, []int{1, 3, 5}},
		{math.MaxUint64, []int{4, 2, 1, 3, 6, 5}, []int{1, 3, 5}},
		{1 << 63, []int{3, 2, 1, 5, 6, 4}, []int{3, 1, 5}},
		{1<<63 - 1, []int{3, 2, 1, 5, 6, 4}, []int{3, 1, 5}},
		{1 << 62, []int{5, 3, 2, 6, 4, 1}, []int{5, 3, 1}},
		{3 << 62, []int{3, 6, 2, 5, 4, 1}, []int{3, 5, 1}},
		{0xfedcba9876543210, []int{4, 2, 1, 3, 6, 5}, []int{1, 3, 5}},
	}
	for _, c := range table {
		for _, rest := range []byte{0, 1, 255} {
			walks(t, keyAt(c.place, rest), everyone(), c.all...)
			walks(t, keyAt(c.place, rest), []int{1, 3, 5}, c.odd...)
		}
	}
}

// P13.2: a point that is just there comes first; one above it, it comes last of all points.
func TestWalkAtPoints(t *testing.T) {
	for i, row := range points() {
		node := i + 1
		for _, p := range row {
			if l := Walk(keyAt(p, 7), everyone()...); len(l) != 6 || l[0] != node {
				t.Errorf("at %x of node %d: %v", p, node, l)
			}
			if l := Walk(keyAt(p-1, 255), everyone()...); len(l) != 6 || l[0] != node {
				t.Errorf("right below %x of node %d: %v", p, node, l)
			}
			walks(t, keyAt(p+1, 0), everyone(), modelWalk(p+1, everyone())...)
		}
	}
	// Behind node 5's last point come those from 0 on; node 4's first one is the least of all.
	greatest, least := uint64(0xfb3ada1e502d800e), uint64(0x0174a86cc251c812)
	walks(t, keyAt(greatest, 0), everyone(), 5, 4, 2, 1, 3, 6)
	walks(t, keyAt(greatest+1, 0), everyone(), 4, 2, 1, 3, 6, 5)
	walks(t, keyAt(least, 255), everyone(), 4, 2, 1, 3, 6, 5)
	walks(t, keyAt(least, 0), []int{5, 2}, 2, 5)
	walks(t, keyAt(0xe9824e1b9af05242, 0), []int{5, 2}, 5, 2)
}

// The chapter's words: distances go upwards, round the ring; at one place the lesser node comes first.
func TestByComing(t *testing.T) {
	far := []struct{ from, to, want uint64 }{
		{0, 0, 0}, {5, 5, 0}, {math.MaxUint64, math.MaxUint64, 0},
		{0, 1, 1}, {1, 0, math.MaxUint64}, {math.MaxUint64, 0, 1}, {0, math.MaxUint64, math.MaxUint64},
		{1 << 63, 1<<63 - 1, math.MaxUint64}, {1<<63 - 1, 1 << 63, 1}, {10, 3, math.MaxUint64 - 6},
	}
	for _, c := range far {
		if got := distance(c.from, c.to); got != c.want {
			t.Errorf("from %x to %x: %x, not %x", c.from, c.to, got, c.want)
		}
	}
	table := []struct {
		list, want []coming
	}{
		{[]coming{{2, 9}, {1, 9}}, []coming{{1, 9}, {2, 9}}},
		{[]coming{{3, 0}, {6, 0}, {1, 0}}, []coming{{1, 0}, {3, 0}, {6, 0}}},
		{[]coming{{1, 1 << 63}, {2, 1}}, []coming{{2, 1}, {1, 1 << 63}}},
		{[]coming{{1, math.MaxUint64}, {2, 1<<63 - 1}, {3, 0}}, []coming{{3, 0}, {2, 1<<63 - 1}, {1, math.MaxUint64}}},
		{[]coming{{5, 7}, {4, 8}, {6, 7}, {1, 8}}, []coming{{5, 7}, {6, 7}, {1, 8}, {4, 8}}},
	}
	for _, c := range table {
		list := slices.Clone(c.list)
		slices.SortFunc(list, byComing)
		if !slices.Equal(list, c.want) {
			t.Errorf("%v: %v, not %v", c.list, list, c.want)
		}
	}
}

// P13.2, the chapter's example: of one node that node, of none nothing.
func TestWalkOfFew(t *testing.T) {
	for _, place := range []uint64{0, 1, 1 << 63, math.MaxUint64} {
		key := keyAt(place, 3)
		walks(t, key, nil)
		walks(t, key, []int{})
		for _, node := range everyone() {
			walks(t, key, []int{node}, node)
			walks(t, key, []int{node, node, node}, node)
		}
	}
}

// P13.2: numbers that no node has aren't answered, and those beside them are.
func TestWalkOfWrong(t *testing.T) {
	wrong := []int{math.MinInt, math.MinInt + 1, -6, -1, 0, 7, 8, 1<<8 + 1, 1<<32 + 1, math.MaxInt - 1, math.MaxInt}
	for _, place := range []uint64{0, 1 << 62, 1 << 63, math.MaxUint64} {
		key := keyAt(place, 3)
		walks(t, key, wrong)
		walks(t, key, slices.Concat(wrong, []int{3}, wrong), 3)
		walks(t, key, slices.Concat(wrong, everyone(), wrong), modelWalk(place, everyone())...)
		for _, n := range wrong {
			walks(t, key, []int{n})
			walks(t, key, []int{n, 6, n, 1, n}, modelWalk(place, []int{1, 6})...)
		}
	}
}

// P13.2: a long list, in which each number stands many times.
func TestWalkOfMany(t *testing.T) {
	list := make([]int, 1<<20)
	for i := range list {
		list[i] = i%11 - 2
	}
	walks(t, keyAt(0, 0), list, 4, 2, 1, 3, 6, 5)
	for i := range list {
		list[i] = -i
	}
	walks(t, keyAt(0, 0), list)
	list[len(list)-1] = 5
	walks(t, keyAt(0, 0), list, 5)
}

// Rule 3: a list that is handed in isn't changed, its spare room neither, and isn't answered.
func TestHandedIn(t *testing.T) {
	whole := []int{6, 2, 9, 2, 1, 5, 4, 3}
	was := slices.Clone(whole)
	key := keyAt(1<<62, 0)
	for _, call := range []func(api.Digest, ...int) []int{Walk, Owns} {
		list := call(key, whole[:5]...)
		if !slices.Equal(whole, was) {
			t.Errorf("the list is %v now", whole)
		}
		list = list[:cap(list)]
		for i := range list {
			list[i] = 8
		}
		if !slices.Equal(whole, was) {
			t.Errorf("the answer shares the list: %v", whole)
		}
	}
}

// Rules 3 and 4: what is answered is new memory, and calls know nothing of one another.
func TestNewMemory(t *testing.T) {
	key := keyAt(0, 0)
	for range 3 {
		all, again, owners := Walk(key, everyone()...), Walk(key, everyone()...), Owns(key, everyone()...)
		for _, l := range [][]int{all, owners} {
			l = l[:cap(l)]
			for i := range l {
				l[i] = 7
			}
		}
		if !slices.Equal(again, []int{4, 2, 1, 3, 6, 5}) {
			t.Errorf("Walk: %v", again)
		}
		walks(t, keyAt(1<<63, 0), everyone(), 3, 2, 1, 5, 6, 4)
	}
}
