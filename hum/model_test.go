package hum

import (
	"math"
	"math/rand"
	"slices"
	"testing"

	"apiary/api"
)

// model is rumours by the chapter's words: each node's word, and how often it is to be told yet.
type model struct {
	times int
	words [7]api.Member
	more  [7]int
}

func newModel(times int) *model {
	if times < 1 {
		times = 1
	}
	if times > 100 {
		times = 100
	}
	return &model{times: times}
}

func (o *model) push(list []api.Member) {
	for _, m := range list {
		can := m.Node >= 1 && m.Node <= 6 && m.Inc >= 0 && m.Inc <= 1073741824 && m.State >= 0 && m.State <= 3
		if can {
			o.words[m.Node], o.more[m.Node] = m, o.times
		}
	}
}

// take goes down from the greatest number of times, and up through the nodes at each.
func (o *model) take(most int) []api.Member {
	var told []api.Member
	for more := 100; more > 0; more-- {
		for node := 1; node <= 6; node++ {
			if o.more[node] == more && len(told) < most {
				told = append(told, o.words[node])
			}
		}
	}
	for _, m := range told {
		o.more[m.Node]--
	}
	return told
}

func (o *model) left() []api.Rumour {
	var list []api.Rumour
	for node, more := range o.more {
		if more > 0 {
			list = append(list, rumour(o.words[node], more))
		}
	}
	return list
}

// both are a hum and its model, to which the same comes.
type both struct {
	*Hum
	*model
}

func newBoth(times int) both { return both{New(times), newModel(times)} }

func (b both) come(t *testing.T, list ...api.Member) {
	t.Helper()
	b.Push(list...)
	b.push(list)
	has(t, "came", b.Hum, b.left()...)
}

func (b both) tell(t *testing.T, most int) {
	t.Helper()
	takes(t, b.Hum, most, b.take(most)...)
	has(t, "told", b.Hum, b.left()...)
}

// P11.1, P11.2: all ways of four calls out of a few.
func TestFourCalls(t *testing.T) {
	const calls = 9
	act := func(b both, call int) {
		switch call {
		case 0:
			b.come(t, alive(1)...)
		case 1:
			b.come(t, word(1, 1, 1))
		case 2:
			b.come(t, alive(2, 1)...)
		case 3:
			b.come(t, word(6, 1<<30, 3), word(2, 1<<30+1, 0), word(2, 0, 2))
		case 4:
			b.come(t, word(0, 0, 0), word(7, 0, 0), word(1, 0, 4))
		default:
			b.tell(t, call-5)
		}
	}
	for _, times := range []int{0, 1, 2, 3} {
		for way := range calls * calls * calls * calls {
			b, left := newBoth(times), way
			for range 4 {
				act(b, left%calls)
				left /= calls
			}
			b.tell(t, 6)
		}
	}
}

// randomWord is a word, mostly one that can be.
func randomWord(r *rand.Rand) api.Member {
	m := word(1+r.Intn(6), r.Intn(4), r.Intn(4))
	ends := []int{math.MinInt, -1, 0, 1, 3, 4, 6, 7, 1<<30 - 1, 1 << 30, 1<<30 + 1, math.MaxInt}
	end := ends[r.Intn(len(ends))]
	switch r.Intn(12) {
	case 0:
		m.Node = end
	case 1:
		m.Inc = end
	case 2:
		m.State = end
	}
	return m
}

func randomWords(r *rand.Rand, most int) []api.Member {
	list := make([]api.Member, r.Intn(most+1))
	for i := range list {
		list[i] = randomWord(r)
	}
	return list
}

// P11.1, P11.2: calls at random against the model.
func TestRandomCalls(t *testing.T) {
	r := rand.New(rand.NewSource(11))
	for range 600 {
		b := newBoth(r.Intn(9) - 1)
		if r.Intn(8) == 0 {
			b = newBoth(95 + r.Intn(10))
		}
		for range 60 {
			if r.Intn(3) == 0 {
				b.come(t, randomWords(r, 4)...)
			} else {
				b.tell(t, r.Intn(9)-1)
			}
		}
	}
}

// P11.3: words that all differ, pushed and told at random: each is told no more often than it should,
// not at all once another one of its node came, and, asked for to the end, no less.
func TestToldSoOften(t *testing.T) {
	r := rand.New(rand.NewSource(113))
	for range 600 {
		times := 1 + r.Intn(7)
		h, last, told := New(times), [7]api.Member{}, map[api.Member]int{}
		count := func(list []api.Member) {
			for _, m := range list {
				told[m]++
				if m != last[m.Node] || told[m] > times {
					t.Fatalf("%v is told the %d. time of %d, %v came last", m, told[m], times, last[m.Node])
				}
			}
		}
		for inc := range 40 {
			m := word(1+r.Intn(6), inc, r.Intn(4))
			if old := last[m.Node]; r.Intn(3) == 0 {
				h.Push(m)
				last[m.Node] = m
				delete(told, old)
			}
			count(h.Take(r.Intn(4)))
		}
		for range 6 * times {
			count(h.Take(1))
		}
		for _, m := range last {
			if m.Node > 0 && told[m] != times {
				t.Fatalf("%v was told %d times, not %d", m, told[m], times)
			}
		}
		has(t, "in the end", h)
	}
}

// P11.3: however few are asked for at a time, all rumours are told, none more than once ahead of another one.
func TestNobodyWaits(t *testing.T) {
	for most := 1; most <= 6; most++ {
		for nodes := 1; nodes <= 6; nodes++ {
			h, told := New(4), []api.Member(nil)
			for node := nodes; node >= 1; node-- {
				h.Push(word(node, 0, api.Alive))
			}
			for range 4 * nodes {
				told = append(told, h.Take(most)...)
				low, high := 4, 0
				for _, m := range h.Left() {
					low, high = min(low, m.More), max(high, m.More)
				}
				if high-low > 1 {
					t.Fatalf("%d of %d nodes: %v", most, nodes, h.Left())
				}
			}
			if len(told) != 4*nodes {
				t.Errorf("%d of %d nodes: %d words were told", most, nodes, len(told))
			}
			for i, m := range told {
				if m.Node != i%nodes+1 {
					t.Errorf("%d of %d nodes: %v", most, nodes, told)
				}
			}
		}
	}
}

// A fuzz test's bytes are calls: a small one asks, any other begins a word of three bytes that comes.
func FuzzCalls(f *testing.F) {
	f.Add("\x40\x00\x00\x41\x00\x01\x01\x01\x06", 2)
	f.Add("\x46\x7f\x03\x08\x47\x00\x00\x00\x46\x00\x04\x03", 0)
	f.Add(manyCalls(), 101)
	f.Fuzz(func(t *testing.T, s string, times int) {
		b := newBoth(times)
		for i := 0; i < len(s) && i < 600; i++ {
			if s[i] < 16 {
				b.tell(t, int(s[i])-2)
			} else if i+2 < len(s) {
				inc := int(int8(s[i+1]))
				if inc > 100 {
					inc += 1<<30 - 126
				}
				b.come(t, word(int(s[i])%9-1, inc, int(s[i+2])%6-1))
				i += 2
			}
		}
	})
}

// manyCalls is calls that push all nodes and ask for each of them often.
func manyCalls() string {
	text := []byte(nil)
	for node := range 9 {
		text = append(text, byte(18+node), 0, 1)
	}
	return string(slices.Concat(text, slices.Repeat([]byte{3, 5}, 20)))
}
