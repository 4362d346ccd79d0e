package rank

import (
	"math"
	"math/rand"
	"slices"
	"testing"

	"apiary/api"
)

// height is a word as one number, so that the one above has the greater number; -1 of a word that can't be.
func height(m api.Member) int {
	if m.Node < 1 || m.Node > 6 || m.Inc < 0 || m.Inc > 1073741824 || m.State < 0 || m.State > 3 {
		return -1
	}
	return m.Inc*4 + m.State
}

// modelAll is what is known once these words have come: of each node the highest.
func modelAll(list []api.Member) []api.Member {
	var all []api.Member
	for node := 1; node <= 6; node++ {
		best := -1
		for _, m := range list {
			if m.Node == node {
				best = max(best, height(m))
			}
		}
		if best >= 0 {
			all = append(all, word(node, best/4, best%4))
		}
	}
	return all
}

// modelTaken are those words of a list that are above all words of their nodes ahead of them, old ones first.
func modelTaken(old, list []api.Member) []api.Member {
	var taken []api.Member
	for i, m := range list {
		before := slices.Concat(old, list[:i])
		lower := func(o api.Member) bool { return o.Node != m.Node || height(o) < height(m) }
		if height(m) >= 0 && !slices.ContainsFunc(before, func(o api.Member) bool { return !lower(o) }) {
			taken = append(taken, m)
		}
	}
	return taken
}

// told fails unless a view that is told lists, one behind the other, answers as the model does.
func told(t *testing.T, lists ...[]api.Member) {
	t.Helper()
	v, old := New(), []api.Member(nil)
	for _, list := range lists {
		merge(t, v, list, modelTaken(old, list)...)
		old = slices.Concat(old, list)
		knows(t, "told", v, modelAll(old)...)
	}
}

// few are all words of two nodes and three Incs, and some that can't be.
func few() []api.Member {
	var list []api.Member
	for _, node := range []int{1, 6} {
		for _, inc := range []int{0, 1, 1 << 30} {
			for state := api.Alive; state <= api.Left; state++ {
				list = append(list, word(node, inc, state))
			}
		}
	}
	return append(list, word(0, 0, 0), word(7, 1, 1), word(1, -1, 3), word(6, 1<<30+1, 0), word(1, 1, 4), word(6, 0, -1))
}

// P10.1: of any two words of one node that can be and aren't the same just one is above; of three it goes through.
func TestAboveIsAnOrder(t *testing.T) {
	for _, a := range few() {
		for _, b := range few() {
			want := a.Node == b.Node && height(b) >= 0 && height(a) > height(b)
			if got := Above(a, b); got != want {
				t.Errorf("Above(%v, %v): %t", a, b, got)
			}
			for _, c := range few() {
				if Above(a, b) && Above(b, c) && !Above(a, c) {
					t.Errorf("%v above %v above %v", a, b, c)
				}
			}
		}
	}
}

// P10.2, P10.3: all ways of three words, in one list and in several.
func TestThreeWords(t *testing.T) {
	for _, a := range few() {
		for _, b := range few() {
			for _, c := range few() {
				told(t, []api.Member{a, b, c})
				told(t, []api.Member{a}, []api.Member{b, c})
			}
		}
	}
}

// randomWord is a word, mostly one that can be, of few Incs so that words meet.
func randomWord(r *rand.Rand) api.Member {
	m := word(1+r.Intn(6), r.Intn(4), r.Intn(4))
	ends := []int{math.MinInt, -1, 0, 1, 3, 4, 6, 7, 1<<30 - 1, 1 << 30, 1<<30 + 1, math.MaxInt}
	end := ends[r.Intn(len(ends))]
	switch r.Intn(12) {
	case 0:
		m.Node = end
	case 1:
		m.Inc = end
	case 2:
		m.State = end
	}
	return m
}

func randomWords(r *rand.Rand, most int) []api.Member {
	list := make([]api.Member, r.Intn(most+1))
	for i := range list {
		list[i] = randomWord(r)
	}
	return list
}

// P10.2, P10.3: words at random against the model.
func TestRandomWords(t *testing.T) {
	r := rand.New(rand.NewSource(10))
	for range 3000 {
		told(t, randomWords(r, 8), randomWords(r, 20), randomWords(r, 3))
	}
}

// P10.4: views that are told the same words in another order, some of them twice, in lists or one by one, know the same.
func TestWhateverOrder(t *testing.T) {
	r := rand.New(rand.NewSource(104))
	for range 3000 {
		list := randomWords(r, 20)
		v := New(list...)
		more := slices.Clone(list)
		for range r.Intn(8) {
			if len(list) > 0 {
				more = append(more, list[r.Intn(len(list))])
			}
		}
		r.Shuffle(len(more), func(i, k int) { more[i], more[k] = more[k], more[i] })
		cut := r.Intn(len(more) + 1)
		w := New(more[:cut]...)
		w.Merge(more[cut:]...)
		knows(t, "in another order", w, v.All()...)
		one := New()
		for _, m := range more {
			one.Merge(m)
		}
		knows(t, "one by one", one, v.All()...)
		twice := New(w.All()...)
		merge(t, twice, more)
		knows(t, "told on", twice, v.All()...)
	}
}

// P10.4: the words of a few nodes in all orders.
func TestAllOrders(t *testing.T) {
	list := []api.Member{word(2, 1, 0), word(2, 0, 3), word(1, 0, 1), word(2, 1, 1), word(1, 0, 2), word(1, 1, 0)}
	want := []api.Member{word(1, 1, 0), word(2, 1, 1)}
	var walk func(done, left []api.Member)
	walk = func(done, left []api.Member) {
		if len(left) == 0 {
			knows(t, "an order", New(done...), want...)
		}
		for i, m := range left {
			walk(append(slices.Clone(done), m), slices.Delete(slices.Clone(left), i, i+1))
		}
	}
	walk(nil, list)
}

// P10.4: what is known only rises: each node's word stays, or one above it takes its place.
func TestOnlyRises(t *testing.T) {
	r := rand.New(rand.NewSource(1004))
	v := New()
	for range 20000 {
		before := v.All()
		taken := v.Merge(randomWords(r, 3)...)
		for _, old := range before {
			if m, ok := v.Get(old.Node); !ok || m != old && !Above(m, old) {
				t.Fatalf("%v was known, now %v, %t", old, m, ok)
			}
		}
		if len(taken) == 0 && !slices.Equal(v.All(), before) {
			t.Fatalf("nothing was taken: %v, then %v", before, v.All())
		}
		if r.Intn(60) == 0 {
			v = New()
		}
	}
}

// A fuzz test's bytes are words, three of them one.
func FuzzMerge(f *testing.F) {
	f.Add("\x01\x00\x00\x01\x00\x01\x01\x01\x00", 1)
	f.Add("\x00\x00\x00\x07\x01\x02\x06\xff\x03", 0)
	f.Fuzz(func(t *testing.T, s string, cut int) {
		var list []api.Member
		for ; len(s) >= 3 && len(list) < 200; s = s[3:] {
			inc := int(int8(s[1]))
			if inc > 100 {
				inc += 1<<30 - 110
			}
			list = append(list, word(int(int8(s[0]))%9, inc, int(int8(s[2]))%6))
		}
		at := min(max(cut, 0), len(list))
		told(t, list[:at], list[at:])
	})
}
