package ring

import (
	"crypto/sha256"
	"encoding/binary"
	"math"
	"math/rand"
	"slices"
	"testing"

	"apiary/api"
)

// modelPoint is a point made of the library's digest and of bytes that are written out.
func modelPoint(node, n int) uint64 {
	row := []byte{1, 3, 1, 4, 'r', 'i', 'n', 'g', 1, 2, 1, byte(node)}
	if n == 0 {
		row = append(row, 1, 1, 0)
	} else {
		row = append(row, 1, 2, 1, byte(n))
	}
	sum := sha256.Sum256(row)
	return binary.BigEndian.Uint64(sum[:8])
}

// modelWalk goes round the ring point by point: those from the place up, then those below it.
func modelWalk(place uint64, nodes []int) []int {
	type mark struct {
		at   uint64
		node int
	}
	var above, below []mark
	for node := 1; node <= 6; node++ {
		for n := range 8 {
			m := mark{modelPoint(node, n), node}
			if m.at >= place {
				above = append(above, m)
			} else {
				below = append(below, m)
			}
		}
	}
	upwards := func(a, b mark) int {
		switch {
		case a.at < b.at || a.at == b.at && a.node < b.node:
			return -1
		case a == b:
			return 0
		}
		return 1
	}
	slices.SortFunc(above, upwards)
	slices.SortFunc(below, upwards)
	var list []int
	for _, m := range slices.Concat(above, below) {
		if slices.Contains(nodes, m.node) && !slices.Contains(list, m.node) {
			list = append(list, m.node)
		}
	}
	return list
}

// some are the nodes of a set: node n is in it if bit n-1 is.
func some(set int) []int {
	var list []int
	for node := 1; node <= 6; node++ {
		if set>>(node-1)&1 == 1 {
			list = append(list, node)
		}
	}
	return list
}

// places are those of all points, those beside them, and some at random.
func places(r *rand.Rand, random int) []uint64 {
	list := []uint64{0, 1, math.MaxInt64, 1 << 63, math.MaxUint64 - 1, math.MaxUint64}
	for _, row := range points() {
		for _, p := range row {
			list = append(list, p-1, p, p+1)
		}
	}
	for range random {
		list = append(list, r.Uint64())
	}
	return list
}

// P13.1: all points against the model, and no two of them at one place.
func TestPointsAgainstModel(t *testing.T) {
	seen := map[uint64]int{}
	for node := 1; node <= api.MaxNodes; node++ {
		for n := range api.Points {
			p, e := Point(node, n)
			if p != modelPoint(node, n) || e != api.OK {
				t.Errorf("Point(%d, %d): %x, %d", node, n, p, e)
			}
			seen[p]++
		}
	}
	if len(seen) != 48 {
		t.Errorf("%d points", len(seen))
	}
}

// P13.2: all sets of nodes, from many places on.
func TestWalkAgainstModel(t *testing.T) {
	r := rand.New(rand.NewSource(13))
	for _, place := range places(r, 60) {
		key := keyAt(place, byte(r.Intn(256)))
		for set := range 64 {
			walks(t, key, some(set), modelWalk(place, some(set))...)
		}
	}
}

// P13.3: without some of the nodes the others come in the same order.
func TestWithoutSome(t *testing.T) {
	r := rand.New(rand.NewSource(133))
	for _, place := range places(r, 60) {
		key := keyAt(place, byte(r.Intn(256)))
		all := Walk(key, everyone()...)
		for set := range 64 {
			nodes := some(set)
			gone := func(node int) bool { return !slices.Contains(nodes, node) }
			walks(t, key, nodes, slices.DeleteFunc(slices.Clone(all), gone)...)
		}
	}
}

// P13.3: all orders of all nodes.
func TestAllOrders(t *testing.T) {
	keys := []api.Digest{keyAt(0, 0), keyAt(1<<63, 9), keyAt(0x4731c0679fd7d584, 255)}
	var walk func(done, left []int)
	walk = func(done, left []int) {
		if len(left) == 0 {
			for _, key := range keys {
				walks(t, key, done, modelWalk(Place(key), everyone())...)
			}
		}
		for i, node := range left {
			walk(append(slices.Clone(done), node), slices.Delete(slices.Clone(left), i, i+1))
		}
	}
	walk(nil, everyone())
}

// P13.3: mixed, some of them several times, with numbers between them that no node has.
func TestHoweverHandedIn(t *testing.T) {
	r := rand.New(rand.NewSource(1333))
	for range 2000 {
		place := r.Uint64()
		nodes := some(r.Intn(64))
		list := slices.Clone(nodes)
		for range r.Intn(6) {
			if len(nodes) > 0 {
				list = append(list, nodes[r.Intn(len(nodes))])
			}
			list = append(list, []int{0, 7, -1, 100, math.MinInt, math.MaxInt}[r.Intn(6)])
		}
		r.Shuffle(len(list), func(i, k int) { list[i], list[k] = list[k], list[i] })
		walks(t, keyAt(place, byte(r.Intn(256))), list, modelWalk(place, nodes)...)
	}
}

// P13.3: a key's owners stay, if who goes isn't one of them, or who comes doesn't become one; else just one of them changes.
func TestOwnersStay(t *testing.T) {
	r := rand.New(rand.NewSource(13333))
	for _, place := range places(r, 40) {
		key := keyAt(place, byte(r.Intn(256)))
		for set := range 64 {
			nodes := some(set)
			owners := Owns(key, nodes...)
			for _, node := range nodes {
				fewer := slices.DeleteFunc(slices.Clone(nodes), func(n int) bool { return n == node })
				left := Owns(key, fewer...)
				if !slices.Contains(owners, node) && !slices.Equal(left, owners) {
					t.Fatalf("from %x on %v own of %v, without %d %v", place, owners, nodes, node, left)
				}
				for _, o := range owners {
					if o != node && !slices.Contains(left, o) {
						t.Fatalf("from %x on %d owned of %v, not without %d", place, o, nodes, node)
					}
				}
			}
		}
	}
}

// P13.2: every node owns something, as the first one and as the second one.
func TestEveryoneOwns(t *testing.T) {
	r := rand.New(rand.NewSource(3))
	var first, second [api.MaxNodes + 1]int
	for range 2000 {
		owners := Owns(keyAt(r.Uint64(), 0), everyone()...)
		if len(owners) != 2 || owners[0] == owners[1] {
			t.Fatalf("owners: %v", owners)
		}
		first[owners[0]]++
		second[owners[1]]++
	}
	for node := 1; node <= api.MaxNodes; node++ {
		if first[node] == 0 || second[node] == 0 {
			t.Errorf("node %d owns %d keys first, %d second", node, first[node], second[node])
		}
	}
}

// P1: every call ends and none panics, at all arguments; a fuzz test's bytes are a key, then numbers.
func FuzzWalk(f *testing.F) {
	f.Add("\x00", "\x01\x02\x03\x04\x05\x06", 0, 0)
	f.Add("\xff\xff\xff\xff\xff\xff\xff\xff", "\x06\x06\x00\xff\x07", 6, 7)
	f.Add("", "", math.MinInt, math.MaxInt)
	f.Fuzz(func(t *testing.T, s, numbers string, node, n int) {
		var key api.Digest
		copy(key[:], s)
		list := []int{node, n}
		for i := range min(len(numbers), 200) {
			list = append(list, int(int8(numbers[i])))
		}
		walks(t, key, list, modelWalk(Place(key), list)...)
		p, e := Point(node, n)
		if node < 1 || node > 6 || n < 0 || n > 7 {
			if p != 0 || e != api.ErrArg {
				t.Errorf("Point(%d, %d): %x, %d", node, n, p, e)
			}
		} else if p != modelPoint(node, n) || e != api.OK {
			t.Errorf("Point(%d, %d): %x, %d", node, n, p, e)
		}
	})
}
