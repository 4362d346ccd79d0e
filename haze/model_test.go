package haze

import (
	"math"
	"math/big"
	"math/rand"
	"slices"
	"testing"

	"apiary/api"
)

// modelMarks are a key's bits by the chapter's words, in numbers without an end.
func modelMarks(k api.Digest) []int {
	var list []int
	for i := range 4 {
		n := new(big.Int).SetBytes(k[2*i : 2*i+2])
		list = append(list, int(n.Mod(n, big.NewInt(512)).Int64()))
	}
	return list
}

// modelHaze is a summary as a set of bits.
type modelHaze map[int]struct{}

func (m modelHaze) put(keys ...api.Digest) {
	for _, k := range keys {
		for _, n := range modelMarks(k) {
			m[n] = struct{}{}
		}
	}
}

func (m modelHaze) has(k api.Digest) bool {
	for _, n := range modelMarks(k) {
		if _, ok := m[n]; !ok {
			return false
		}
	}
	return true
}

// haze writes the set's bits from the lowest one up.
func (m modelHaze) haze() api.Haze {
	var h api.Haze
	for i := range h {
		for n := 7; n >= 0; n-- {
			h[i] *= 2
			if _, ok := m[8*i+n]; ok {
				h[i]++
			}
		}
	}
	return h
}

// P14.1 and P14.3: keys at random, few of whose bytes differ, against the model.
func TestHazeAgainstModel(t *testing.T) {
	r := rand.New(rand.NewSource(141))
	for range 400 {
		m, h := modelHaze{}, api.Haze{}
		var parts []api.Haze
		for range r.Intn(8) {
			keys := nearKeys(r, r.Intn(12))
			m.put(keys...)
			h = With(h, keys...)
			parts = append(parts, Of(keys...))
		}
		if want := m.haze(); h != want || Join(parts...) != want || Count(h) != len(m) {
			t.Fatalf("%x, not %x", h, want)
		}
		for _, k := range nearKeys(r, 60) {
			if Has(h, k) != m.has(k) {
				t.Fatalf("Has(%x): %v", k, Has(h, k))
			}
		}
	}
}

// nearKeys are keys whose marks are often those of others.
func nearKeys(r *rand.Rand, n int) []api.Digest {
	keys := randomKeys(r, n)
	for i := range keys {
		for at := range 8 {
			if at%2 == 1 {
				keys[i][at] &= 0x91
			}
		}
	}
	return keys
}

// modelSky is all that was put and dropped, in order.
type modelSky struct {
	calls []modelCall
}

type modelCall struct {
	node int
	h    api.Haze
	now  int
	drop bool
}

// last is the call that tells of a node's summary, if one does.
func (m *modelSky) last(node int) (modelCall, bool) {
	for _, c := range slices.Backward(m.calls) {
		can := c.drop || c.now >= 0 && c.now <= 1099511627776
		if c.node == node && can {
			return c, !c.drop
		}
	}
	return modelCall{}, false
}

func (m *modelSky) may(k api.Digest, now int) []int {
	var list []int
	for _, node := range []int{1, 2, 3, 4, 5, 6} {
		c, ok := m.last(node)
		if !ok {
			continue
		}
		age := new(big.Int).Sub(big.NewInt(int64(now)), big.NewInt(int64(c.now)))
		old := age.Sign() < 0 || age.Cmp(big.NewInt(40)) > 0
		missing := slices.ContainsFunc(modelMarks(k), func(n int) bool { return c.h[n/8]>>(n%8)%2 == 0 })
		if !old && !missing {
			list = append(list, node)
		}
	}
	return list
}

// both are a sky and its model, to which the same comes.
type both struct {
	sky   *Sky
	model modelSky
}

func (b *both) put(node int, h api.Haze, now int) {
	b.sky.Put(node, h, now)
	b.model.calls = append(b.model.calls, modelCall{node: node, h: h, now: now})
}

func (b *both) drop(node int) {
	b.sky.Drop(node)
	b.model.calls = append(b.model.calls, modelCall{node: node, drop: true})
}

func (b *both) asked(t *testing.T, k api.Digest, now int) {
	t.Helper()
	may(t, b.sky, k, now, b.model.may(k, now)...)
}

// moment is a time near others, or one at the ends.
func moment(r *rand.Rand) int {
	ends := []int{math.MinInt, math.MinInt + 40, -1, 0, most - 1, most, most + 1, most + 40, math.MaxInt - 40, math.MaxInt}
	if r.Intn(5) == 0 {
		return ends[r.Intn(len(ends))]
	}
	return r.Intn(100)
}

// P14.2: calls at random against the model.
func TestSkyAgainstModel(t *testing.T) {
	r := rand.New(rand.NewSource(142))
	nodes := slices.Concat([]int{1, 2, 3, 4, 5, 6, 1, 2, 3, 4, 5, 6, 1, 2, 3, 4, 5, 6}, noNodes())
	for range 150 {
		b := &both{sky: New()}
		for range 60 {
			node := nodes[r.Intn(len(nodes))]
			if r.Intn(6) == 0 {
				b.drop(node)
			} else {
				b.put(node, Of(nearKeys(r, r.Intn(30))...), moment(r))
			}
			for _, k := range nearKeys(r, 3) {
				b.asked(t, k, moment(r))
			}
		}
	}
}

// P14.2: all ways of four calls of some.
func TestAllCalls(t *testing.T) {
	calls := []func(b *both){
		func(b *both) { b.put(1, Of(one(1)), 5) },
		func(b *both) { b.put(1, Of(one(2)), 45) },
		func(b *both) { b.put(2, Of(one(1), one(2)), 6) },
		func(b *both) { b.put(2, api.Haze{}, 0) },
		func(b *both) { b.put(1, fullHaze(), -1) },
		func(b *both) { b.put(0, fullHaze(), 5) },
		func(b *both) { b.drop(1) },
		func(b *both) { b.drop(2) },
		func(b *both) { b.drop(7) },
	}
	count := len(calls)
	for way := range count * count * count * count {
		b := &both{sky: New()}
		for left := way; len(b.model.calls) < 4; left /= count {
			calls[left%count](b)
		}
		for _, now := range []int{4, 5, 6, 44, 45, 46, 47, 85, 86} {
			b.asked(t, one(1), now)
			b.asked(t, one(2), now)
		}
	}
}

// P1: every call ends and none panics, at all arguments; a fuzz test's bytes are calls, each of a number, a time and a key.
func FuzzCalls(f *testing.F) {
	f.Add("", "", 0, 0)
	f.Add("\x01\x05abcdefgh\x82\x06abcdefgh\x01\x50hgfedcba", "abcdefgh", 5, 45)
	f.Add("\x06\xffxxxxxxxx\x07\x00xxxxxxxx", "xxxxxxxx", math.MinInt, math.MaxInt)
	f.Add("\x41\x00\x00\x01\x00\x01\x00\x01\x02\x00", "\x00\x01\x00\x01\x00\x01\x02\x00", 6, most)
	f.Fuzz(func(t *testing.T, calls, asked string, node, now int) {
		var k api.Digest
		copy(k[:], asked)
		b, all := &both{sky: New()}, modelHaze{}
		h := api.Haze{}
		for ; len(calls) >= 10 && len(b.model.calls) < 100; calls = calls[10:] {
			var put api.Digest
			copy(put[:], calls[2:10])
			all.put(put)
			h = With(h, put)
			if !Has(h, put) || h != all.haze() || h != Join(h, Of(put)) || Count(h) != len(all) {
				t.Fatalf("with %x: %x", put, h)
			}
			number := int(calls[0]) % 16
			if calls[0] >= 128 {
				b.drop(number)
			} else {
				b.put(number, h, int(int8(calls[1])))
			}
			b.asked(t, k, int(calls[1]))
			b.asked(t, put, int(int8(calls[1])))
		}
		if Has(h, k) != all.has(k) {
			t.Errorf("Has(%x, %x): %v", h, k, Has(h, k))
		}
		b.asked(t, k, now)
		b.put(node, With(h, k), now)
		b.asked(t, k, now)
		b.asked(t, k, math.MaxInt)
		b.drop(node)
		b.asked(t, k, now)
	})
}
