package rank

import (
	"math"
	"slices"
	"testing"

	"apiary/api"
)

// word is a member, written short.
func word(node, inc, state int) api.Member {
	return api.Member{Node: node, Inc: inc, State: state}
}

// knows fails unless a view knows just these words, whichever way it is asked.
func knows(t *testing.T, what string, v *View, want ...api.Member) {
	t.Helper()
	if got := v.All(); !slices.Equal(got, want) {
		t.Errorf("%s: All: %v, not %v", what, got, want)
	}
	var present []int
	for _, m := range want {
		if m.State < api.Gone {
			present = append(present, m.Node)
		}
	}
	if got := v.Present(); !slices.Equal(got, present) {
		t.Errorf("%s: Present: %v, not %v", what, got, present)
	}
	for node := -1; node <= api.MaxNodes+2; node++ {
		at := slices.IndexFunc(want, func(m api.Member) bool { return m.Node == node })
		m, ok := v.Get(node)
		if ok != (at >= 0) || ok && m != want[at] || !ok && m != (api.Member{}) {
			t.Errorf("%s: Get(%d): %v, %t", what, node, m, ok)
		}
	}
}

// merge fails unless the view takes just these of the words.
func merge(t *testing.T, v *View, list []api.Member, want ...api.Member) {
	t.Helper()
	if got := v.Merge(list...); !slices.Equal(got, want) {
		t.Errorf("Merge(%v): %v, not %v", list, got, want)
	}
}

// wrong are words that can't be: each field beside its ends, far off, and at the ends of its type.
func wrong() []api.Member {
	list := []api.Member{{}, word(0, 1, 1), word(7, api.MaxInc, api.Left), word(-1, -1, -1), word(7, api.MaxInc+1, 4)}
	for _, node := range []int{math.MinInt, -6, -1, 0, 7, 8, 1<<32 + 1, math.MaxInt} {
		list = append(list, word(node, 0, api.Alive))
	}
	for _, inc := range []int{math.MinInt, math.MinInt + 1, -1 << 30, -1, 1<<30 + 1, 1 << 31, 1 << 32, 1<<32 + 1, math.MaxInt} {
		list = append(list, word(1, inc, api.Alive))
	}
	for _, state := range []int{math.MinInt, -3, -1, 4, 5, 1 << 32, math.MaxInt} {
		list = append(list, word(6, 1, state))
	}
	return list
}

// P10.1: a member can be with each field within its ends, both of them in it.
func TestGood(t *testing.T) {
	for _, node := range []int{1, 2, 3, 5, 6} {
		for _, inc := range []int{0, 1, 2, 300, 1<<30 - 1, 1 << 30} {
			for _, state := range []int{api.Alive, api.Doubted, api.Gone, api.Left} {
				if !Good(word(node, inc, state)) {
					t.Errorf("Good(%d %d %d): false", node, inc, state)
				}
			}
		}
	}
	for _, m := range wrong() {
		if Good(m) {
			t.Errorf("Good(%v): true", m)
		}
	}
}

// P10.1: the greater Inc, whatever the states; of the same Inc the greater State; no word above itself.
func TestAbove(t *testing.T) {
	table := []struct {
		a, b api.Member
		want bool
	}{
		{word(1, 0, api.Alive), word(1, 0, api.Alive), false},
		{word(1, 0, api.Doubted), word(1, 0, api.Alive), true},
		{word(1, 0, api.Gone), word(1, 0, api.Doubted), true},
		{word(1, 0, api.Left), word(1, 0, api.Gone), true},
		{word(1, 0, api.Left), word(1, 0, api.Alive), true},
		{word(1, 0, api.Left), word(1, 0, api.Left), false},
		{word(2, 1, api.Alive), word(2, 0, api.Alive), true},
		{word(2, 1, api.Alive), word(2, 0, api.Doubted), true},
		{word(2, 1, api.Alive), word(2, 0, api.Left), true},
		{word(2, 1, api.Left), word(2, 0, api.Left), true},
		{word(2, 2, api.Doubted), word(2, 1, api.Gone), true},
		{word(6, 10, api.Alive), word(6, 9, api.Left), true},
		{word(6, 1<<30, api.Alive), word(6, 0, api.Left), true},
		{word(6, 1<<30, api.Alive), word(6, 1<<30-1, api.Left), true},
		{word(6, 1<<30, api.Left), word(6, 1<<30, api.Gone), true},
	}
	for _, c := range table {
		if got := Above(c.a, c.b); got != c.want {
			t.Errorf("Above(%v, %v): %t", c.a, c.b, got)
		}
		if Above(c.b, c.a) {
			t.Errorf("Above(%v, %v): true", c.b, c.a)
		}
	}
}

// P10.1: words of two nodes don't stand above one another.
func TestAboveOfTwoNodes(t *testing.T) {
	for a := 1; a <= api.MaxNodes; a++ {
		for b := 1; b <= api.MaxNodes; b++ {
			for _, m := range []api.Member{word(a, 0, api.Alive), word(a, 2, api.Left), word(a, api.MaxInc, api.Doubted)} {
				if got := Above(m, word(b, 0, api.Alive)); got != (a == b && m.Inc > 0) {
					t.Errorf("Above(%v, alive %d): %t", m, b, got)
				}
			}
		}
	}
}

// P10.1: a word that can't be stands above none, and none above it, though its numbers are greater or less.
func TestAboveOfWrong(t *testing.T) {
	for _, m := range wrong() {
		for _, good := range []api.Member{word(1, 0, api.Alive), word(1, api.MaxInc, api.Left), word(6, 1, api.Alive), word(6, 1, api.Left)} {
			if Above(m, good) || Above(good, m) {
				t.Errorf("Above of %v and %v: true", m, good)
			}
		}
		for _, other := range wrong() {
			if Above(m, other) {
				t.Errorf("Above(%v, %v): true", m, other)
			}
		}
	}
	near := []struct{ a, b api.Member }{
		{word(0, 1, 0), word(0, 0, 0)}, {word(7, 1, 0), word(7, 0, 0)},
		{word(1, api.MaxInc+1, 0), word(1, api.MaxInc, 0)}, {word(1, 0, 0), word(1, -1, 0)},
		{word(1, 0, 4), word(1, 0, 3)}, {word(1, 0, 0), word(1, 0, -1)}, {word(1, 1, 4), word(1, 0, 0)}, {word(1, 1, 0), word(1, 0, 4)},
	}
	for _, c := range near {
		if Above(c.a, c.b) {
			t.Errorf("Above(%v, %v): true", c.a, c.b)
		}
	}
}

// P10.2, P10.3: a new view knows nothing, or what its words come to, in whatever order they stand.
func TestNew(t *testing.T) {
	knows(t, "New()", New())
	knows(t, "New(nothing)", New([]api.Member{}...))
	knows(t, "one word", New(word(4, 2, api.Doubted)), word(4, 2, api.Doubted))
	knows(t, "the least word", New(word(1, 0, api.Alive)), word(1, 0, api.Alive))
	knows(t, "the greatest word", New(word(6, api.MaxInc, api.Left)), word(6, api.MaxInc, api.Left))
	all := []api.Member{word(6, 0, 3), word(5, 9, 1), word(4, 0, 0), word(3, 1, 2), word(2, 8, 0), word(1, 7, 1)}
	knows(t, "all nodes", New(all...), word(1, 7, 1), word(2, 8, 0), word(3, 1, 2), word(4, 0, 0), word(5, 9, 1), word(6, 0, 3))
	knows(t, "two of one node", New(word(2, 1, 0), word(2, 0, 3), word(1, 0, 0), word(2, 1, 1)), word(1, 0, 0), word(2, 1, 1))
	knows(t, "words that can't be", New(wrong()...))
	knows(t, "one that can be", New(append(wrong(), word(3, 3, 3))...), word(3, 3, 3))
}

// P10.2: the first word of a node is taken, whatever it is, if it can be.
func TestMergeFirst(t *testing.T) {
	for node := 1; node <= api.MaxNodes; node++ {
		for state := api.Alive; state <= api.Left; state++ {
			for _, inc := range []int{0, 1, 1 << 30} {
				v, m := New(), word(node, inc, state)
				merge(t, v, []api.Member{m}, m)
				knows(t, "the first word", v, m)
			}
		}
	}
}

// P10.2: words of a list are taken one by one, each held against what the one ahead of it left.
func TestMergeInOrder(t *testing.T) {
	v := New()
	merge(t, v, nil)
	merge(t, v, []api.Member{})
	merge(t, v, []api.Member{word(5, 0, 0), word(2, 1, 1), word(2, 1, 1), word(2, 0, 3), word(2, 1, 2), word(5, 0, 0), word(1, 0, 3), word(2, 2, 0)},
		word(5, 0, 0), word(2, 1, 1), word(2, 1, 2), word(1, 0, 3), word(2, 2, 0))
	knows(t, "a list", v, word(1, 0, 3), word(2, 2, 0), word(5, 0, 0))
	merge(t, v, []api.Member{word(2, 1, 2), word(1, 0, 2), word(5, 0, 0), word(2, 2, 0), word(1, 0, 3)})
	knows(t, "nothing new", v, word(1, 0, 3), word(2, 2, 0), word(5, 0, 0))
	merge(t, v, []api.Member{word(5, 1, 0), word(2, 2, 1), word(1, 1, 0)}, word(5, 1, 0), word(2, 2, 1), word(1, 1, 0))
	knows(t, "all new", v, word(1, 1, 0), word(2, 2, 1), word(5, 1, 0))
}

// P10.2: the states of one word, one behind the other, then the next word, up to the greatest one.
func TestMergeRises(t *testing.T) {
	v := New()
	for _, inc := range []int{0, 1, 2, 5, 1<<30 - 1, 1 << 30} {
		for state := api.Alive; state <= api.Left; state++ {
			m := word(3, inc, state)
			merge(t, v, []api.Member{m, m}, m)
			knows(t, "rising", v, m)
		}
	}
	merge(t, v, []api.Member{word(3, 1<<30, api.Gone), word(3, 0, 0), word(3, 1<<30+1, 0), word(3, 1<<30, 4), word(3, math.MaxInt, 3)})
	knows(t, "at the end", v, word(3, 1<<30, api.Left))
}

// P10.2: words that can't be aren't taken, neither first nor later, and those beside them are.
func TestMergeWrong(t *testing.T) {
	for _, m := range wrong() {
		v := New()
		merge(t, v, []api.Member{m, m})
		knows(t, "a wrong word first", v)
		merge(t, v, []api.Member{m, word(1, 0, 0), m, word(6, 0, 1), m}, word(1, 0, 0), word(6, 0, 1))
		knows(t, "a wrong word between", v, word(1, 0, 0), word(6, 0, 1))
	}
}

// P10.3: what is asked for at the ends of whole numbers, and of a node of which nothing is known, is nothing.
func TestGet(t *testing.T) {
	v := New(word(1, 0, 0), word(3, 4, 2))
	for _, node := range []int{math.MinInt, -3, -1, 0, 2, 4, 6, 7, 1<<32 + 1, 1<<32 + 3, math.MaxInt} {
		if m, ok := v.Get(node); ok || m != (api.Member{}) {
			t.Errorf("Get(%d): %v, %t", node, m, ok)
		}
	}
	if m, ok := v.Get(3); !ok || m != word(3, 4, 2) {
		t.Errorf("Get(3): %v, %t", m, ok)
	}
	knows(t, "asking changes nothing", v, word(1, 0, 0), word(3, 4, 2))
}

// P10.3: alive and doubted nodes are present, whatever their words; those gone or left aren't.
func TestPresent(t *testing.T) {
	table := []struct {
		state int
		want  []int
	}{{api.Alive, []int{2}}, {api.Doubted, []int{2}}, {api.Gone, nil}, {api.Left, nil}}
	for _, c := range table {
		for _, inc := range []int{0, 1, 2, 3, 1 << 30} {
			if got := New(word(2, inc, c.state)).Present(); !slices.Equal(got, c.want) {
				t.Errorf("the state %d, the word %d: %v, not %v", c.state, inc, got, c.want)
			}
		}
	}
	v := New(word(6, 0, 0), word(5, 0, 1), word(4, 0, 2), word(3, 0, 3), word(2, 0, 1), word(1, 0, 0))
	if got := v.Present(); !slices.Equal(got, []int{1, 2, 5, 6}) {
		t.Errorf("Present: %v", got)
	}
	v.Merge(word(1, 0, 2), word(3, 1, 0))
	if got := v.Present(); !slices.Equal(got, []int{2, 3, 5, 6}) {
		t.Errorf("one gone, one come again: %v", got)
	}
}

// P10.3: of a nil view nothing, false; words that come are not taken.
func TestNilView(t *testing.T) {
	var v *View
	if list := v.Merge(word(1, 0, 0)); len(list) != 0 {
		t.Errorf("Merge: %v", list)
	}
	v.Merge()
	knows(t, "nil", v)
}

// P10.4: the chapter's example, in all orders.
func TestExample(t *testing.T) {
	a, b, c := word(1, 0, api.Alive), word(1, 0, api.Doubted), word(1, 1, api.Alive)
	for _, list := range [][]api.Member{{a, b, c}, {a, c, b}, {b, a, c}, {b, c, a}, {c, a, b}, {c, b, a}} {
		knows(t, "the example", New(list...), c)
	}
}

// P10.4: what is answered is new memory: written over, nothing else changes.
func TestNewMemory(t *testing.T) {
	v := New()
	list := v.Merge(word(1, 0, 0), word(2, 0, 1), word(3, 1, 1))
	other := v.Merge(word(1, 1, 0), word(2, 1, 1))
	all, again := v.All(), v.All()
	present, same := v.Present(), v.Present()
	for _, l := range [][]api.Member{list, other, all} {
		l = l[:cap(l)]
		for i := range l {
			l[i] = word(5, 5, 3)
		}
	}
	present = present[:cap(present)]
	for i := range present {
		present[i] = 6
	}
	knows(t, "written over", v, word(1, 1, 0), word(2, 1, 1), word(3, 1, 1))
	if want := v.All(); !slices.Equal(again, want) {
		t.Errorf("All: %v, not %v", again, want)
	}
	if !slices.Equal(same, []int{1, 2, 3}) {
		t.Errorf("Present: %v", same)
	}
	if l := New().Merge(word(4, 0, 0)); !slices.Equal(l, []api.Member{word(4, 0, 0)}) {
		t.Errorf("Merge: %v", l)
	}
}

// Rule 3: a list that is handed in isn't changed, its spare room neither, and isn't kept or answered.
func TestHandedIn(t *testing.T) {
	whole := []api.Member{word(3, 0, 0), word(9, 9, 9), word(2, 0, 1), word(2, 0, 0), word(6, 6, 3), word(6, 7, 3)}
	was := slices.Clone(whole)
	list := whole[:4]
	v := New(list...)
	taken := New().Merge(list...)
	if !slices.Equal(whole, was) {
		t.Errorf("the list is %v now", whole)
	}
	for i := range taken[:cap(taken)] {
		taken[:cap(taken)][i] = word(1, 1, 1)
	}
	if !slices.Equal(whole, was) {
		t.Errorf("the answer shares the list: %v", whole)
	}
	for i := range whole {
		whole[i] = word(4, 4, 1)
	}
	knows(t, "the list written over", v, word(2, 0, 1), word(3, 0, 0))
}

// Rule 4: views know nothing of one another.
func TestViewsApart(t *testing.T) {
	v, w := New(word(1, 0, 0)), New(word(2, 0, 0))
	merge(t, v, []api.Member{word(2, 1, 2)}, word(2, 1, 2))
	merge(t, w, []api.Member{word(1, 3, 1)}, word(1, 3, 1))
	knows(t, "the one", v, word(1, 0, 0), word(2, 1, 2))
	knows(t, "the other", w, word(1, 3, 1), word(2, 0, 0))
	knows(t, "a new one", New())
	all := v.All()
	merge(t, v, all)
	knows(t, "told what it knows", v, all...)
}
