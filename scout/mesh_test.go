package scout

import (
	"math/rand"
	"slices"
	"testing"

	"apiary/api"
	"apiary/rank"
)

// mesh is scouts that hear of each other what isn't lost.
type mesh struct {
	t      *testing.T
	r      *rand.Rand
	scouts []*Scout // by nodes, from 1 on
	silent [7]bool
	apart  [7][7]bool
	loss   int // of a hundred frames
	late   int // the most ticks that a frame may be under way
	air    []api.Sent
	known  [7][]api.Member
}

func newMesh(t *testing.T, nodes int, seed int64) *mesh {
	x := &mesh{t: t, r: rand.New(rand.NewSource(seed)), scouts: make([]*Scout, nodes+1)}
	for node := 1; node <= nodes; node++ {
		x.scouts[node] = New(node, nodes)
	}
	return x
}

// deliver: a frame comes, unless it is lost; what is sent because of it comes, too.
func (x *mesh) deliver(list []api.Sent) {
	for len(list) > 0 {
		f := list[0]
		list = list[1:]
		if x.silent[f.From] || x.silent[f.To] || x.apart[f.From][f.To] || x.r.Intn(100) < x.loss {
			continue
		}
		if x.late > 0 && x.r.Intn(x.late+1) > 0 {
			x.air = append(x.air, f)
			continue
		}
		list = append(list, x.scouts[f.To].Hear(f.Frame)...)
	}
}

// run: so many ticks of all that aren't silent; what each of them knows only rises.
func (x *mesh) run(n int) {
	x.t.Helper()
	for range n {
		due := x.air
		x.air = nil
		x.deliver(due)
		for node := 1; node < len(x.scouts); node++ {
			if !x.silent[node] {
				x.deliver(x.scouts[node].Tick(x.r.Int() - x.r.Int()))
			}
		}
		for node := 1; node < len(x.scouts); node++ {
			x.rises(node)
		}
	}
}

// rises fails if a node knows less than it did.
func (x *mesh) rises(node int) {
	x.t.Helper()
	now := x.scouts[node].All()
	if len(now) != len(x.scouts)-1 {
		x.t.Fatalf("%d knows %v", node, now)
	}
	for i, old := range x.known[node] {
		if now[i] != old && !rank.Above(now[i], old) {
			x.t.Fatalf("%d knew %v, and knows %v", node, old, now[i])
		}
	}
	x.known[node] = now
}

// begin: a node begins anew, and knows nothing of what was.
func (x *mesh) begin(node int) {
	x.scouts[node] = New(node, len(x.scouts)-1)
	x.known[node] = nil
	x.silent[node] = false
}

// split: two halves hear nothing of each other, or do again.
func (x *mesh) split(cut int, apart bool) {
	for a := 1; a < len(x.scouts); a++ {
		for b := 1; b < len(x.scouts); b++ {
			x.apart[a][b] = apart && (a <= cut) != (b <= cut)
		}
	}
}

// all fails unless each node that is there knows each node in its state, and of one that speaks for itself no word above its own.
func (x *mesh) all(what string, states ...int) {
	x.t.Helper()
	for node := 1; node < len(x.scouts); node++ {
		if x.silent[node] || states[node-1] != api.Alive {
			continue
		}
		for _, m := range x.scouts[node].All() {
			if m.State != states[m.Node-1] {
				x.t.Fatalf("%s: %d knows %v", what, node, x.scouts[node].All())
			}
			if own := x.scouts[m.Node].Me(); !x.silent[m.Node] && rank.Above(m, own) {
				x.t.Fatalf("%s: %d knows %v, which says %v", what, node, m, own)
			}
		}
	}
}

// alive are the states of so many nodes that are there.
func alive(nodes int) []int { return make([]int, nodes) }

// P12.5: when all answer, nobody is ever doubted, and no word is said.
func TestAllAnswer(t *testing.T) {
	for nodes := 1; nodes <= 6; nodes++ {
		x := newMesh(t, nodes, int64(nodes))
		for range 300 {
			x.run(1)
			x.all("calm", alive(nodes)...)
			for node := 1; node <= nodes; node++ {
				if x.scouts[node].Me().Inc != 0 {
					t.Fatalf("%v", x.scouts[node].Me())
				}
			}
		}
	}
}

// P12.5: who answers, by itself or over another one, in time, is never doubted by who asked it.
func TestNeverDoubted(t *testing.T) {
	r := rand.New(rand.NewSource(125))
	for range 300 {
		nodes := 3 + r.Intn(4)
		me := 1 + r.Intn(nodes)
		s, from, seq, node := New(me, nodes), 0, 0, 0
		for tick := range 200 {
			for _, f := range s.Tick(r.Int()) {
				if f.Kind == api.FramePing {
					seq, node, from = f.Seq, f.To, f.To
				} else if r.Intn(2) == 0 {
					from = f.To
				}
			}
			if tick%4 == 2 || from == node && r.Intn(2) == 0 {
				s.Hear(answer(from, seq, node))
			}
			for _, m := range s.All() {
				if m != word(m.Node, 0, api.Alive) {
					t.Fatalf("%d of %d, tick %d: %v", me, nodes, tick+1, m)
				}
			}
		}
	}
}

// P12.5: two that hear nothing of each other are asked for by the others, and nobody is doubted.
func TestAskedForByOthers(t *testing.T) {
	for nodes := 3; nodes <= 6; nodes++ {
		x := newMesh(t, nodes, int64(nodes))
		x.apart[1][2], x.apart[2][1] = true, true
		for range 300 {
			x.run(1)
			x.all("two apart", alive(nodes)...)
		}
		if x.scouts[1].Me().Inc+x.scouts[2].Me().Inc > 0 {
			t.Errorf("%v, %v", x.scouts[1].Me(), x.scouts[2].Me())
		}
	}
}

// P12.5: who doesn't answer is gone for everybody in the end; who is there again is found again.
func TestGoneAndFound(t *testing.T) {
	for nodes := 2; nodes <= 6; nodes++ {
		for who := 1; who <= nodes; who++ {
			x := newMesh(t, nodes, int64(10*nodes+who))
			x.run(x.r.Intn(20))
			x.silent[who] = true
			x.run(80)
			states := alive(nodes)
			states[who-1] = api.Gone
			x.all("silent", states...)
			x.run(100)
			x.all("silent for long", states...)
			x.silent[who] = false
			x.run(200)
			x.all("there again", alive(nodes)...)
			if inc := x.scouts[who].Me().Inc; inc < 1 {
				t.Errorf("%d says %d", who, inc)
			}
		}
	}
}

// P12.5: so it is for who begins anew and knows nothing of its words.
func TestBegunAnew(t *testing.T) {
	for nodes := 2; nodes <= 6; nodes++ {
		for who := 1; who <= nodes; who++ {
			x := newMesh(t, nodes, int64(20*nodes+who))
			for range 3 {
				x.silent[who] = true
				x.run(80)
				x.begin(who)
				x.run(200)
				x.all("begun anew", alive(nodes)...)
			}
			if inc := x.scouts[who].Me().Inc; inc < 3 {
				t.Errorf("%d says %d", who, inc)
			}
		}
	}
}

// P12.5: all but one are silent: they are gone for that one.
func TestAloneInTheEnd(t *testing.T) {
	for nodes := 2; nodes <= 6; nodes++ {
		x := newMesh(t, nodes, int64(nodes))
		states := alive(nodes)
		for node := 2; node <= nodes; node++ {
			x.silent[node] = true
			states[node-1] = api.Gone
		}
		x.run(200)
		x.all("alone", states...)
		if got := x.scouts[1].Present(); !slices.Equal(got, []int{1}) {
			t.Errorf("present: %v", got)
		}
	}
}

// P12.5: two halves hold each other for gone, and find each other again.
func TestHalves(t *testing.T) {
	for nodes := 2; nodes <= 6; nodes++ {
		for cut := 1; cut < nodes; cut++ {
			x := newMesh(t, nodes, int64(30*nodes+cut))
			x.split(cut, true)
			x.run(150)
			for node := 1; node <= nodes; node++ {
				for _, m := range x.scouts[node].All() {
					if want := (node <= cut) != (m.Node <= cut); (m.State == api.Gone) != want {
						t.Errorf("%d knows %v", node, m)
					}
				}
			}
			x.split(cut, false)
			x.run(300)
			x.all("one again", alive(nodes)...)
		}
	}
}

// P12.5: frames that are lost and late: whoever is doubted says so in a greater word; when nothing is lost any more, all know the same.
func TestLossAndDelay(t *testing.T) {
	for seed := range int64(40) {
		nodes := 2 + int(seed%5)
		x := newMesh(t, nodes, seed)
		x.loss, x.late = 10+int(seed), int(seed%4)
		x.run(400)
		x.loss, x.late = 0, 0
		x.run(300)
		x.all("nothing is lost any more", alive(nodes)...)
	}
}

// P12.5: whoever hears that it is doubted stands above that at once, and who told it hears so by the answer.
func TestDoubtedStandsAbove(t *testing.T) {
	for inc := range 50 {
		a, b := New(1, 2), New(2, 2)
		heard(a, 2, word(2, inc, api.Doubted))
		for _, f := range a.Tick(0) {
			for _, g := range b.Hear(f.Frame) {
				a.Hear(g.Frame)
			}
		}
		knows(t, a, word(1, 0, 0), word(2, inc+1, 0))
		knows(t, b, word(1, 0, 0), word(2, inc+1, 0))
	}
}

// P12.4, P12.5: who left is known so by everybody, also by those who were silent then, and stays so.
func TestLeftForEverybody(t *testing.T) {
	for nodes := 2; nodes <= 6; nodes++ {
		for who := 1; who <= nodes; who++ {
			x := newMesh(t, nodes, int64(40*nodes+who))
			other := 1 + who%nodes
			x.run(7)
			x.silent[other] = nodes > 2
			x.deliver(x.scouts[who].Leave())
			states := alive(nodes)
			states[who-1] = api.Left
			if nodes > 2 {
				x.run(60)
				x.silent[other] = false
			}
			x.run(300)
			x.all("left", states...)
		}
	}
}
