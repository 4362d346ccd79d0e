package haze

import (
	"math"
	"slices"
	"testing"

	"apiary/api"
)

// most is the latest time at which a summary can come.
const most = 1 << 40

// may fails unless a key may be with just these nodes.
func may(t *testing.T, s *Sky, k api.Digest, now int, want ...int) {
	t.Helper()
	if got := s.May(k, now); !slices.Equal(got, want) {
		t.Errorf("May(%x, %d): %v, not %v", k[:8], now, got, want)
	}
}

// noNodes are numbers that no node has, at the ends of their type and beside 1 and 6, too.
func noNodes() []int {
	return []int{math.MinInt, math.MinInt + 1, -6, -1, 0, 7, 8, 255, 1<<8 + 1, 1<<32 + 1, math.MaxInt - 1, math.MaxInt}
}

// P14.2: a new sky has no summaries; two of them have nothing of each other.
func TestNew(t *testing.T) {
	s, other := New(), New()
	if s == nil || other == nil || s == other {
		t.Fatal("New:", s, other)
	}
	for _, now := range []int{math.MinInt, -1, 0, 1, 40, most, math.MaxInt} {
		may(t, s, one(1), now)
		may(t, s, key(), now)
	}
	s.Put(1, fullHaze(), 0)
	may(t, s, one(1), 0, 1)
	may(t, other, one(1), 0)
	may(t, New(), one(1), 0)
}

// P14.2: the nodes rise, however they came; a summary without all the key's marks doesn't count.
func TestMay(t *testing.T) {
	a, b := marked(1, 2, 3, 4), marked(4, 5, 6, 7)
	s := New()
	s.Put(6, Of(a, b), 0)
	s.Put(3, Of(b), 0)
	s.Put(1, Of(a), 0)
	s.Put(5, api.Haze{}, 0)
	s.Put(2, fullHaze(), 0)
	may(t, s, a, 0, 1, 2, 6)
	may(t, s, b, 0, 2, 3, 6)
	may(t, s, one(4), 0, 1, 2, 3, 6)
	may(t, s, marked(1, 5, 1, 5), 0, 2, 6)
	may(t, s, one(9), 0, 2)
	s.Put(4, Of(one(9)), 0)
	may(t, s, one(9), 0, 2, 4)
	all := New()
	for node := 6; node >= 1; node-- {
		all.Put(node, Of(a), 0)
	}
	may(t, all, a, 0, 1, 2, 3, 4, 5, 6)
	may(t, all, one(4), 40, 1, 2, 3, 4, 5, 6)
	may(t, all, one(5), 0)
}

// P14.2: a summary counts from its time on, for 40 more, at the first and the latest times, too.
func TestFresh(t *testing.T) {
	for _, came := range []int{0, 1, 39, 40, 41, 1000, 1<<31 - 1, 1 << 31, 1<<32 - 1, 1 << 32, most - 41, most - 1, most} {
		s := New()
		s.Put(2, fullHaze(), came)
		for _, now := range []int{math.MinInt, math.MinInt + came, came - most - 1, -came - 1, came - 41, came - 40, came - 1} {
			may(t, s, one(1), now)
		}
		for _, now := range []int{came, came + 1, came + 39, came + 40} {
			may(t, s, one(1), now, 2)
		}
		for _, now := range []int{came + 41, came + 42, came + 1<<32, came + 1<<40, math.MaxInt - 1, math.MaxInt} {
			may(t, s, one(1), now)
		}
		// To ask changes nothing: it is as fresh as it was at an earlier time.
		may(t, s, one(1), came+40, 2)
	}
}

// P14.2: each node's summary has a time of its own.
func TestTimes(t *testing.T) {
	s := New()
	for node := 1; node <= 6; node++ {
		s.Put(node, fullHaze(), 10*node)
	}
	table := []struct {
		now  int
		want []int
	}{
		{0, nil}, {9, nil}, {10, []int{1}}, {19, []int{1}}, {20, []int{1, 2}}, {35, []int{1, 2, 3}},
		{49, []int{1, 2, 3, 4}}, {50, []int{1, 2, 3, 4, 5}}, {51, []int{2, 3, 4, 5}}, {60, []int{2, 3, 4, 5, 6}},
		{61, []int{3, 4, 5, 6}}, {70, []int{3, 4, 5, 6}}, {71, []int{4, 5, 6}}, {100, []int{6}}, {101, nil},
	}
	for _, c := range table {
		may(t, s, one(3), c.now, c.want...)
	}
}

// P14.2: what comes takes the place of what was there, at an earlier time, too; the elder one isn't joined to it.
func TestPutAgain(t *testing.T) {
	a, b := one(1), one(2)
	for _, c := range []struct{ first, then int }{{10, 30}, {30, 10}, {10, 10}, {0, most}, {most, 0}} {
		s := New()
		s.Put(3, Of(a), c.first)
		s.Put(4, Of(a), c.first)
		s.Put(3, Of(b), c.then)
		may(t, s, b, c.then, 3)
		may(t, s, b, c.then+40, 3)
		may(t, s, b, c.then+41)
		may(t, s, b, c.then-1)
		may(t, s, a, c.first, 4)
		s.Put(3, api.Haze{}, c.then)
		may(t, s, b, c.then)
		s.Put(3, Of(a, b), c.first)
		may(t, s, a, c.first, 3, 4)
		may(t, s, b, c.first, 3)
	}
}

// P14.2: of a number that no node has, or at a time that cannot be, nothing is put, and what was there stays.
func TestPutOfWrong(t *testing.T) {
	times := []int{math.MinInt, -most, -1 << 32, -41, -40, -1, most + 1, most + 40, most + 41, 1 << 41, math.MaxInt}
	asked := []int{math.MinInt, -41, -1, 0, 1, 30, 40, most, most + 1, most + 40, most + 41, math.MaxInt}
	s := New()
	for _, node := range noNodes() {
		for _, now := range slices.Concat(times, []int{0, 30, most}) {
			s.Put(node, fullHaze(), now)
		}
	}
	for node := 1; node <= 6; node++ {
		for _, now := range times {
			s.Put(node, fullHaze(), now)
		}
	}
	for _, now := range slices.Concat(times, asked) {
		may(t, s, one(1), now)
	}
	for node := 1; node <= 6; node++ {
		s.Put(node, Of(one(1)), 30)
	}
	for _, now := range times {
		for _, node := range slices.Concat(noNodes(), []int{1, 2, 3, 4, 5, 6}) {
			s.Put(node, Of(one(2)), now)
		}
		for _, node := range noNodes() {
			s.Put(node, Of(one(2)), 30)
		}
		may(t, s, one(2), now)
		may(t, s, one(2), 30)
		may(t, s, one(1), 30, 1, 2, 3, 4, 5, 6)
	}
}

// P14.2: a node that is dropped has none, till one comes again; of a number that no node has nothing is dropped.
func TestDrop(t *testing.T) {
	for node := 1; node <= 6; node++ {
		s := New()
		s.Drop(node)
		var others []int
		for n := 1; n <= 6; n++ {
			s.Put(n, Of(one(n), one(7)), 5)
			if n != node {
				others = append(others, n)
			}
		}
		for _, n := range noNodes() {
			s.Drop(n)
		}
		may(t, s, one(7), 5, 1, 2, 3, 4, 5, 6)
		for range 2 {
			s.Drop(node)
			may(t, s, one(7), 5, others...)
			may(t, s, one(node), 5)
			may(t, s, one(node), 45)
		}
		s.Put(node, Of(one(8)), 3)
		may(t, s, one(8), 3, node)
		may(t, s, one(8), 4, node)
		may(t, s, one(7), 5, others...)
		for n := 1; n <= 6; n++ {
			s.Drop(n)
		}
		may(t, s, one(7), 5)
	}
}

// P14.2, rule 5: of a nil sky nothing.
func TestNil(t *testing.T) {
	var s *Sky
	for _, n := range slices.Concat(noNodes(), []int{1, 3, 6}) {
		s.Put(n, fullHaze(), 0)
		s.Put(1, fullHaze(), n)
		s.Drop(n)
		if l := s.May(one(1), n); len(l) != 0 {
			t.Errorf("May: %v", l)
		}
	}
}

// P14.3: what is put into the sky is found there, as long as it is fresh, whatever else its summary has.
func TestPutFound(t *testing.T) {
	s := New()
	h := Of(one(1))
	s.Put(1, h, 0)
	for n := range 512 {
		h = With(h, one(n))
		s.Put(2, h, n)
		s.Put(3, Join(Of(one(n)), Of(one(0))), n)
		may(t, s, one(n), n+40, 2, 3)
		may(t, s, one(0), n+40, 2, 3)
		may(t, s, one(1), n+1, others(n)...)
	}
}

// others are the nodes that may have the key 1 in TestPutFound: node 1 in the first 40 ticks, node 3 but in one.
func others(n int) []int {
	var list []int
	if n+1 <= 40 {
		list = append(list, 1)
	}
	list = append(list, 2)
	if n == 1 {
		list = append(list, 3)
	}
	return list
}

// Rules 3 and 4: a summary is kept as it was when it came; what is answered is new memory.
func TestKept(t *testing.T) {
	s := New()
	h := Of(one(1))
	for node := 1; node <= 6; node++ {
		s.Put(node, h, 0)
	}
	h[0], h[63] = 0, 255
	for range 3 {
		list, again := s.May(one(1), 0), s.May(one(1), 0)
		list = list[:cap(list)]
		for i := range list {
			list[i] = 9
		}
		if !slices.Equal(again, []int{1, 2, 3, 4, 5, 6}) {
			t.Errorf("May: %v", again)
		}
		may(t, s, one(511), 0)
	}
	// Two skies, to one of which more comes, stay apart.
	other := New()
	other.Put(1, Of(one(2)), 0)
	s.Drop(1)
	may(t, other, one(2), 0, 1)
	may(t, s, one(1), 0, 2, 3, 4, 5, 6)
}
