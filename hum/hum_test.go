package hum

import (
	"math"
	"slices"
	"testing"

	"apiary/api"
)

// word is a member, written short.
func word(node, inc, state int) api.Member {
	return api.Member{Node: node, Inc: inc, State: state}
}

// alive are these nodes, alive in their words 0.
func alive(nodes ...int) []api.Member {
	var list []api.Member
	for _, node := range nodes {
		list = append(list, word(node, 0, api.Alive))
	}
	return list
}

// rumour is a word that is to be told so many times yet.
func rumour(m api.Member, more int) api.Rumour {
	return api.Rumour{Member: m, More: more}
}

// pushed is a hum to which these words came.
func pushed(times int, list ...api.Member) *Hum {
	h := New(times)
	h.Push(list...)
	return h
}

// has fails unless a hum has just these rumours.
func has(t *testing.T, what string, h *Hum, want ...api.Rumour) {
	t.Helper()
	if got := h.Left(); !slices.Equal(got, want) {
		t.Errorf("%s: Left: %v, not %v", what, got, want)
	}
}

// takes fails unless a hum tells just these words.
func takes(t *testing.T, h *Hum, most int, want ...api.Member) {
	t.Helper()
	if got := h.Take(most); !slices.Equal(got, want) {
		t.Errorf("Take(%d): %v, not %v", most, got, want)
	}
}

// wrong are words that can't be: each field beside its ends, far off, and at the ends of its type.
func wrong() []api.Member {
	list := []api.Member{{}, word(0, 1, 1), word(7, 1<<30, api.Left), word(-1, -1, -1), word(7, 1<<30+1, 4)}
	for _, node := range []int{math.MinInt, -6, -1, 0, 7, 9, 1<<32 + 1, math.MaxInt} {
		list = append(list, word(node, 0, api.Alive))
	}
	for _, inc := range []int{math.MinInt, -1 << 30, -1, 1<<30 + 1, 1 << 31, 1 << 32, math.MaxInt} {
		list = append(list, word(1, inc, api.Alive))
	}
	for _, state := range []int{math.MinInt, -1, 4, 5, 1 << 32, math.MaxInt} {
		list = append(list, word(6, 1, state))
	}
	return list
}

// P11.1: a new hum has no rumours, and tells none.
func TestNew(t *testing.T) {
	for _, times := range []int{math.MinInt, -1, 0, 1, 5, 100, 101, math.MaxInt} {
		h := New(times)
		has(t, "new", h)
		takes(t, h, 6)
		takes(t, h, math.MaxInt)
		has(t, "asked", h)
		h.Push()
		h.Push([]api.Member{}...)
		has(t, "pushed nothing", h)
	}
}

// P11.1, P11.3: how often a word is told, at both ends of it, whatever its number of times.
func TestTimes(t *testing.T) {
	table := []struct{ times, want int }{
		{math.MinInt, 1}, {-100, 1}, {-1, 1}, {0, 1}, {1, 1}, {2, 2}, {3, 3}, {5, 5}, {50, 50},
		{99, 99}, {100, 100}, {101, 100}, {102, 100}, {256, 100}, {1<<32 + 1, 100}, {math.MaxInt, 100},
	}
	for _, c := range table {
		m := word(3, 7, api.Doubted)
		h := pushed(c.times, m)
		for more := c.want; more > 0; more-- {
			has(t, "told less often", h, rumour(m, more))
			takes(t, h, 1, m)
		}
		has(t, "told for the last time", h)
		takes(t, h, 1)
		takes(t, h, 6)
		h.Push(m)
		has(t, "pushed again", h, rumour(m, c.want))
	}
}

// P11.1: each word that can be is a rumour, at the ends of its fields, too.
func TestPushEach(t *testing.T) {
	for node := 1; node <= 6; node++ {
		for state := api.Alive; state <= api.Left; state++ {
			for _, inc := range []int{0, 1, 1<<30 - 1, 1 << 30} {
				m := word(node, inc, state)
				h := pushed(2, m)
				has(t, "one word", h, rumour(m, 2))
				takes(t, h, 1, m)
				takes(t, h, 1, m)
				has(t, "told twice", h)
			}
		}
	}
}

// P11.1: words that can't be are no rumours, take no place, and those beside them are.
func TestPushWrong(t *testing.T) {
	has(t, "wrong words alone", pushed(3, wrong()...))
	for _, m := range wrong() {
		h := pushed(3, m, m)
		has(t, "a wrong word", h)
		h.Push(m, word(1, 0, 0), m, word(6, 0, 1), m)
		has(t, "beside others", h, rumour(word(1, 0, 0), 3), rumour(word(6, 0, 1), 3))
		takes(t, h, 1, word(1, 0, 0))
		h.Push(m)
		has(t, "behind others", h, rumour(word(1, 0, 0), 2), rumour(word(6, 0, 1), 3))
	}
}

// P11.1: a word takes the place of its node's, whichever stands above, and is told so many times from then on.
func TestPushInPlace(t *testing.T) {
	words := []api.Member{word(4, 0, 0), word(4, 0, 1), word(4, 0, 3), word(4, 1, 0), word(4, 1<<30, 3)}
	for _, a := range words {
		for _, b := range words {
			h := pushed(3, word(5, 2, 2), a, word(2, 0, 0))
			takes(t, h, 2, word(2, 0, 0), a)
			takes(t, h, 2, word(5, 2, 2), word(2, 0, 0))
			h.Push(b)
			has(t, "in its place", h, rumour(word(2, 0, 0), 1), rumour(b, 3), rumour(word(5, 2, 2), 2))
			takes(t, h, 6, b, word(5, 2, 2), word(2, 0, 0))
			takes(t, h, 6, b, word(5, 2, 2))
			takes(t, h, 6, b)
			takes(t, h, 6)
		}
	}
}

// P11.1: of several words of one node in a list the last one that can be is the rumour.
func TestPushInOrder(t *testing.T) {
	h := pushed(2, word(2, 3, 0), word(1, 0, 0), word(2, 4, 3), word(2, 1, 1), word(2, -1, 0), word(2, 5, 4))
	has(t, "the last one", h, rumour(word(1, 0, 0), 2), rumour(word(2, 1, 1), 2))
	h.Push(word(1, 1, 0), word(1, 0, 3), word(1, 2, 2))
	has(t, "three of one node", h, rumour(word(1, 2, 2), 2), rumour(word(2, 1, 1), 2))
}

// P11.1: a word that was told often is told as often again if it comes again, ahead of the others.
func TestPushAgain(t *testing.T) {
	h := pushed(3, alive(1, 2)...)
	takes(t, h, 6, alive(1, 2)...)
	takes(t, h, 6, alive(1, 2)...)
	h.Push(alive(2)...)
	has(t, "again", h, rumour(word(1, 0, 0), 1), rumour(word(2, 0, 0), 3))
	h.Push(alive(2)...)
	has(t, "no more than so often", h, rumour(word(1, 0, 0), 1), rumour(word(2, 0, 0), 3))
	takes(t, h, 1, alive(2)...)
	takes(t, h, 1, alive(2)...)
	takes(t, h, 1, alive(1)...)
	takes(t, h, 1, alive(2)...)
	takes(t, h, 1)
}

// P11.2: Left tells all rumours by rising nodes, in whatever order they came, and changes nothing.
func TestLeft(t *testing.T) {
	orders := [][]int{{1, 2, 3, 4, 5, 6}, {6, 5, 4, 3, 2, 1}, {4, 1, 6, 2, 5, 3}, {2, 6, 4, 3, 1, 5}}
	for _, order := range orders {
		h := New(4)
		for _, m := range alive(order...) {
			h.Push(m)
		}
		var want []api.Rumour
		for _, m := range alive(1, 2, 3, 4, 5, 6) {
			want = append(want, rumour(m, 4))
		}
		has(t, "all nodes", h, want...)
		has(t, "asked twice", h, want...)
		has(t, "in one list", pushed(4, alive(order...)...), want...)
	}
}

// P11.2: at most so many; none below 1; all, if it is above their number.
func TestTakeMost(t *testing.T) {
	for _, most := range []int{math.MinInt, math.MinInt + 1, -7, -1, 0} {
		h := pushed(1, alive(3, 1)...)
		takes(t, h, most)
		has(t, "none", h, rumour(word(1, 0, 0), 1), rumour(word(3, 0, 0), 1))
	}
	for most := 1; most <= 6; most++ {
		h := pushed(1, alive(5, 6, 3, 1, 2, 4)...)
		all := alive(1, 2, 3, 4, 5, 6)
		takes(t, h, most, all[:most]...)
		takes(t, h, 6, all[most:]...)
		has(t, "all were told", h)
	}
	for _, most := range []int{3, 4, 6, 7, 1 << 32, math.MaxInt} {
		h := pushed(2, alive(6, 2, 3)...)
		takes(t, h, most, alive(2, 3, 6)...)
		takes(t, h, most, alive(2, 3, 6)...)
		takes(t, h, most)
	}
}

// P11.2: those to be told more often go first, whatever their nodes; of such by rising nodes.
func TestTakeOrder(t *testing.T) {
	h := pushed(5, alive(2)...)
	takes(t, h, 1, alive(2)...)
	takes(t, h, 1, alive(2)...)
	h.Push(alive(6, 1)...)
	takes(t, h, 1, alive(1)...)
	h.Push(alive(4, 3)...)
	has(t, "at several heights", h, rumour(word(1, 0, 0), 4), rumour(word(2, 0, 0), 3),
		rumour(word(3, 0, 0), 5), rumour(word(4, 0, 0), 5), rumour(word(6, 0, 0), 5))
	takes(t, h, 6, alive(3, 4, 6, 1, 2)...)
	takes(t, h, 4, alive(3, 4, 6, 1)...)
	takes(t, h, 3, alive(3, 4, 6)...)
	has(t, "the same height", h, rumour(word(1, 0, 0), 2), rumour(word(2, 0, 0), 2),
		rumour(word(3, 0, 0), 2), rumour(word(4, 0, 0), 2), rumour(word(6, 0, 0), 2))
	takes(t, h, 2, alive(1, 2)...)
	takes(t, h, 2, alive(3, 4)...)
	takes(t, h, 2, alive(6, 1)...)
	takes(t, h, 2, alive(2, 3)...)
	takes(t, h, 2, alive(4, 6)...)
	takes(t, h, 2)
}

// P11.2: how a word stands and how great it is says nothing about when it is told.
func TestTakeWhateverWord(t *testing.T) {
	list := []api.Member{word(4, 0, 3), word(3, 1<<30, 0), word(2, 5, 2), word(1, 0, 1)}
	h := pushed(2, list...)
	slices.Reverse(list)
	takes(t, h, 3, list[:3]...)
	takes(t, h, 6, list[3], list[0], list[1], list[2])
	takes(t, h, 6, list[3])
	takes(t, h, 6)
}

// P11.2: in one call each is told once, though it is to be told more often.
func TestTakeOnceEach(t *testing.T) {
	h := pushed(100, alive(1, 2)...)
	takes(t, h, 200, alive(1, 2)...)
	has(t, "once each", h, rumour(word(1, 0, 0), 99), rumour(word(2, 0, 0), 99))
}

// The chapter's example.
func TestExample(t *testing.T) {
	h := pushed(2, alive(1, 2)...)
	takes(t, h, 1, alive(1)...)
	has(t, "between", h, rumour(word(1, 0, 0), 1), rumour(word(2, 0, 0), 2))
	takes(t, h, 1, alive(2)...)
}

// P11.1: of a nil hum nothing.
func TestNilHum(t *testing.T) {
	var h *Hum
	h.Push()
	h.Push(alive(1, 2)...)
	h.Push(wrong()...)
	has(t, "nil", h)
	for _, most := range []int{math.MinInt, -1, 0, 1, 6, math.MaxInt} {
		takes(t, h, most)
	}
}

// spoil writes over a list and its spare room.
func spoil[T any](list []T, by T) {
	list = list[:cap(list)]
	for i := range list {
		list[i] = by
	}
}

// P11.3: what is answered is new memory: written over, nothing else changes.
func TestNewMemory(t *testing.T) {
	h := pushed(3, alive(1, 2, 3, 4)...)
	first, second := h.Take(2), h.Take(2)
	left, again := h.Left(), h.Left()
	spoil(first, word(5, 5, 3))
	spoil(left, rumour(word(6, 6, 3), 9))
	if !slices.Equal(second, alive(3, 4)) {
		t.Errorf("Take: %v", second)
	}
	var want []api.Rumour
	for _, m := range alive(1, 2, 3, 4) {
		want = append(want, rumour(m, 2))
	}
	if !slices.Equal(again, want) {
		t.Errorf("Left: %v", again)
	}
	has(t, "written over", h, want...)
	h.Push(alive(5, 6)...)
	if !slices.Equal(again, want) || !slices.Equal(second, alive(3, 4)) {
		t.Errorf("more came: Left: %v, Take: %v", again, second)
	}
	takes(t, h, 6, alive(5, 6, 1, 2, 3, 4)...)
	if !slices.Equal(again, want) {
		t.Errorf("told: Left: %v", again)
	}
}

// Rule 3: a list that is handed in isn't changed, its spare room neither, and isn't kept.
func TestHandedIn(t *testing.T) {
	whole := []api.Member{word(3, 0, 0), word(9, 9, 9), word(2, 0, 1), word(2, 0, 0), word(6, 6, 3), word(1, 7, 3)}
	was := slices.Clone(whole)
	h := New(2)
	h.Push(whole[:4]...)
	spoil(h.Take(6), word(4, 4, 1))
	spoil(h.Left(), rumour(word(4, 4, 1), 7))
	if !slices.Equal(whole, was) {
		t.Errorf("the list is %v now", whole)
	}
	spoil(whole, word(5, 5, 1))
	has(t, "the list written over", h, rumour(word(2, 0, 0), 1), rumour(word(3, 0, 0), 1))
}

// Rule 4: hums know nothing of one another, their times neither.
func TestHumsApart(t *testing.T) {
	a, b := pushed(2, alive(1)...), pushed(5, alive(2)...)
	c := New(1)
	takes(t, a, 6, alive(1)...)
	b.Push(alive(1)...)
	a.Push(alive(3)...)
	has(t, "the one", a, rumour(word(1, 0, 0), 1), rumour(word(3, 0, 0), 2))
	has(t, "the other", b, rumour(word(1, 0, 0), 5), rumour(word(2, 0, 0), 5))
	has(t, "a new one", c)
}
