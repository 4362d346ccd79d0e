package scout

import (
	"math"
	"math/rand"
	"slices"
	"testing"

	"apiary/api"
)

// handOn is a ping that was asked for: its Seq and who got it, who asked and with which Seq.
type handOn struct {
	seq, node, asker, asked int
	done                    bool
}

// model is a scout by the chapter's words, in arrays by nodes.
type model struct {
	me, nodes, tick, seq int
	words                [7]api.Member
	told                 [7]api.Member
	more, since          [7]int
	line                 []int
	node, nodeSeq        int
	helping              [7]bool
	answered, left       bool
	pings                []handOn // all that ever were
}

func newModel(me, nodes int) *model {
	o := &model{me: me, nodes: nodes}
	for node := 1; node <= nodes; node++ {
		o.words[node].Node = node
	}
	return o
}

func (o *model) push(m api.Member) { o.told[m.Node], o.more[m.Node] = m, 5 }

// height is a word as one number; -1 of one that can't be.
func height(m api.Member) int {
	if m.Inc < 0 || m.Inc > 1073741824 || m.State < 0 || m.State > 3 {
		return -1
	}
	return 4*m.Inc + m.State
}

func (o *model) merge(m api.Member) {
	if height(m) > height(o.words[m.Node]) {
		o.words[m.Node], o.since[m.Node] = m, o.tick
		o.push(m)
	}
}

func (o *model) present(node int) bool { return o.words[node].State < 2 }

func (o *model) take() []api.Member {
	var list []api.Member
	for more := 5; more > 0; more-- {
		for node := 1; node <= 6; node++ {
			if o.more[node] == more {
				list = append(list, o.told[node])
			}
		}
	}
	for _, m := range list {
		o.more[m.Node]--
	}
	return list
}

func (o *model) send(to, kind, seq, node int) api.Sent {
	return api.Sent{To: to, Frame: api.Frame{Kind: kind, From: o.me, Seq: seq, Node: node, Rumours: o.take()}}
}

func (o *model) isOther(node int) bool { return 1 <= node && node <= o.nodes && node != o.me }

// lay is the line of a draw: for each place from the last one down, who changes places with it.
func (o *model) lay(draw int) {
	o.line = nil
	for node := 1; node <= o.nodes; node++ {
		if node != o.me && o.present(node) {
			o.line = append(o.line, node)
		}
	}
	for k := len(o.line); k >= 2; k-- {
		j := (draw%k + k) % k
		o.line[k-1], o.line[j] = o.line[j], o.line[k-1]
		draw = draw / k
	}
}

func (o *model) begin(draw int) []api.Sent {
	o.node, o.nodeSeq, o.helping, o.answered = 0, 0, [7]bool{}, false
	round := (o.tick + 3) / 4
	var absent []int
	for node := 1; node <= o.nodes; node++ {
		if node != o.me && !o.present(node) {
			absent = append(absent, node)
		}
	}
	if round%4 == 0 && len(absent) > 0 {
		o.node = absent[(round/4)%len(absent)]
		o.push(o.words[o.node])
	}
	laid := false
	for o.node == 0 {
		if len(o.line) == 0 && laid {
			return nil
		}
		if len(o.line) == 0 {
			o.lay(draw)
			laid = true
			continue
		}
		if first := o.line[0]; o.present(first) {
			o.node = first
		}
		o.line = o.line[1:]
	}
	o.seq++
	o.nodeSeq = o.seq
	return []api.Sent{o.send(o.node, 1, o.seq, 0)}
}

func (o *model) help() []api.Sent {
	var sent []api.Sent
	for step := 1; step < o.nodes && len(sent) < 2; step++ {
		node := (o.node-1+step)%o.nodes + 1
		if node != o.me && o.present(node) {
			o.helping[node] = true
			sent = append(sent, o.send(node, 3, o.nodeSeq, o.node))
		}
	}
	return sent
}

func (o *model) Tick(draw int) []api.Sent {
	o.tick++
	if o.left {
		return nil
	}
	var sent []api.Sent
	waits := o.node != 0 && !o.answered
	switch {
	case o.tick%4 == 1:
		sent = o.begin(draw)
	case o.tick%4 == 3 && waits:
		sent = o.help()
	case o.tick%4 == 0 && waits && o.words[o.node].State == 0:
		o.merge(word(o.node, o.words[o.node].Inc, 1))
	}
	for node := 1; node <= o.nodes; node++ {
		if m := o.words[node]; m.State == 1 && o.tick >= o.since[node]+8 {
			o.merge(word(node, m.Inc, 2))
		}
	}
	return sent
}

func (o *model) rumour(m api.Member) {
	own := o.words[o.me]
	switch {
	case o.isOther(m.Node):
		o.merge(m)
	case m.Node != o.me || o.left || height(m) < 0:
	case height(m) < height(own):
		o.push(own)
	case height(m) > height(own) && m.Inc < 1073741824:
		o.merge(word(o.me, m.Inc+1, 0))
	}
}

func (o *model) Hear(f api.Frame) []api.Sent {
	if !o.isOther(f.From) {
		return nil
	}
	if m := o.words[f.From]; m.State != 0 {
		o.push(m)
	}
	for _, m := range f.Rumours {
		o.rumour(m)
	}
	switch {
	case o.left:
	case f.Kind == 1:
		return []api.Sent{o.send(f.From, 2, f.Seq, o.me)}
	case f.Kind == 3 && o.isOther(f.Node) && f.Node != f.From:
		o.seq++
		o.pings = append(o.pings, handOn{seq: o.seq, node: f.Node, asker: f.From, asked: f.Seq})
		return []api.Sent{o.send(f.Node, 1, o.seq, 0)}
	case f.Kind == 2:
		if o.node != 0 && f.Seq == o.nodeSeq && f.Node == o.node && (f.From == o.node || o.helping[f.From]) {
			o.answered = true
		}
		for i := max(0, len(o.pings)-16); i < len(o.pings); i++ {
			if p := o.pings[i]; p.seq == f.Seq && p.node == f.From && !p.done {
				o.pings[i].done = true
				return []api.Sent{o.send(p.asker, 2, p.asked, p.node)}
			}
		}
	}
	return nil
}

func (o *model) Leave() []api.Sent {
	if o.left {
		return nil
	}
	o.left = true
	o.merge(word(o.me, o.words[o.me].Inc, 3))
	var sent []api.Sent
	for node := 1; node <= o.nodes; node++ {
		if node != o.me && o.present(node) {
			sent = append(sent, o.send(node, 2, 0, o.me))
		}
	}
	return sent
}

func (o *model) Tell(to, seq int) []api.Sent { return []api.Sent{o.send(to, 1, seq, 0)} }

func (o *model) leftOver() []api.Rumour {
	var list []api.Rumour
	for node, more := range o.more {
		if more > 0 {
			list = append(list, rumour(o.told[node], more))
		}
	}
	return list
}

// both are a scout and its model, to which the same happens.
type both struct {
	*Scout
	o *model
}

func newBoth(me, nodes int) both { return both{New(me, nodes), newModel(me, nodes)} }

// agree fails unless both sent the same, and know and tell the same, behind a call.
func (b both) agree(t *testing.T, call string, got, want []api.Sent) {
	t.Helper()
	if text(got) != text(want) {
		t.Fatalf("tick %d, %s: sent %q, not %q", b.o.tick, call, text(got), text(want))
	}
	if want := b.o.words[1 : b.o.nodes+1]; !slices.Equal(b.All(), want) || b.Me() != b.o.words[b.o.me] {
		t.Fatalf("tick %d, %s: %v and %v are known, not %v", b.o.tick, call, b.All(), b.Me(), want)
	}
	if !slices.Equal(b.known.Left(), b.o.leftOver()) {
		t.Fatalf("tick %d, %s: rumours %v, not %v", b.o.tick, call, b.known.Left(), b.o.leftOver())
	}
	var present []int
	for node := 1; node <= b.o.nodes; node++ {
		if b.o.present(node) {
			present = append(present, node)
		}
	}
	if !slices.Equal(b.Present(), present) {
		t.Fatalf("tick %d, %s: %v are present, not %v", b.o.tick, call, b.Present(), present)
	}
}

func (b both) tick(t *testing.T, draw int) []api.Sent {
	t.Helper()
	got, want := b.Tick(draw), b.o.Tick(draw)
	b.agree(t, "Tick", got, want)
	return got
}

func (b both) hear(t *testing.T, f api.Frame) {
	t.Helper()
	got, want := b.Hear(f), b.o.Hear(f)
	b.agree(t, "Hear", got, want)
}

func (b both) leave(t *testing.T) {
	t.Helper()
	got, want := b.Leave(), b.o.Leave()
	b.agree(t, "Leave", got, want)
}

func (b both) tell(t *testing.T, to, seq int) {
	t.Helper()
	got, want := b.Tell(ping(to, seq)), b.o.Tell(to, seq)
	b.agree(t, "Tell", got, want)
}

// ends are numbers at which something may go over.
func ends() []int {
	return []int{math.MinInt, -1 << 31, -1, 0, 1, 2, 3, 4, 5, 6, 7, 8, 1<<30 - 1, 1 << 30, 1<<30 + 1, 1 << 40, math.MaxInt}
}

func oneOf(r *rand.Rand, list []int) int { return list[r.Intn(len(list))] }

// near is a word that is near what is known, mostly.
func (b both) near(r *rand.Rand) api.Member {
	node := 1 + r.Intn(b.o.nodes)
	m := word(node, b.o.words[node].Inc+r.Intn(3)-1, r.Intn(4))
	switch r.Intn(30) {
	case 0:
		m.Node = oneOf(r, ends())
	case 1:
		m.Inc = oneOf(r, ends())
	case 2:
		m.State = oneOf(r, ends())
	}
	return m
}

// frame is a frame that comes, mostly one that means something now.
func (b both) frame(r *rand.Rand) api.Frame {
	f := api.Frame{Kind: 1 + r.Intn(4), From: 1 + r.Intn(b.o.nodes), Seq: r.Intn(b.o.seq + 2), Node: 1 + r.Intn(b.o.nodes)}
	if r.Intn(2) == 0 {
		f.Seq, f.Node = b.o.nodeSeq, b.o.node
	}
	if n := len(b.o.pings); n > 0 && r.Intn(3) == 0 {
		p := b.o.pings[max(0, n-1-r.Intn(20))]
		f.Kind, f.From, f.Seq, f.Node = 2, p.node, p.seq, p.node
	}
	switch r.Intn(40) {
	case 0:
		f.Kind = oneOf(r, ends())
	case 1:
		f.From = oneOf(r, ends())
	case 2:
		f.Seq = oneOf(r, ends())
	case 3:
		f.Node = oneOf(r, ends())
	}
	for r.Intn(4) == 0 {
		f.Rumours = append(f.Rumours, b.near(r))
	}
	return f
}

// P12.1 to P12.4: calls at random against the model: calm times, in which most are answered, and others.
func TestRandomCalls(t *testing.T) {
	r := rand.New(rand.NewSource(12))
	for run := range 1500 {
		nodes := 1 + r.Intn(6)
		b := newBoth(1+r.Intn(nodes), nodes)
		answering, rumours := r.Intn(11), r.Intn(4)
		for range 150 {
			draw := r.Intn(1000) - 500
			if r.Intn(8) == 0 {
				draw = oneOf(r, ends())
			}
			for _, x := range b.tick(t, draw) {
				if x.Kind == api.FramePing && r.Intn(10) < answering {
					b.hear(t, answer(x.To, x.Seq, x.To))
				}
			}
			for r.Intn(4) < rumours {
				b.hear(t, b.frame(r))
			}
			if r.Intn(20) == 0 {
				b.tell(t, r.Intn(9), r.Intn(9))
			}
			if run%5 == 0 && r.Intn(100) == 0 {
				b.leave(t)
			}
		}
	}
}

// P12.2: ten rounds in which the bits of a number tell whether who is asked answers, who is asked to ask does, and a new word comes.
func TestWaysOfAnswering(t *testing.T) {
	for way := range 1 << 10 {
		b := newBoth(2, 4)
		for round := range 10 {
			bits := way >> round
			for range 4 {
				for _, x := range b.tick(t, way+round) {
					if x.Kind == api.FramePing && bits&1 == 1 {
						b.hear(t, answer(x.To, x.Seq, x.To))
					}
					if x.Kind == api.FrameAsk && bits&2 == 2 {
						b.hear(t, answer(x.To, x.Seq, x.Node))
					}
				}
			}
			if bits&4 == 4 {
				b.hear(t, api.Frame{From: 1 + round%4, Rumours: []api.Member{word(1+round%4, round, api.Alive)}})
			}
		}
	}
}

// P12.2: the line of each number of others, for many draws.
func TestLines(t *testing.T) {
	for nodes := 1; nodes <= 6; nodes++ {
		for me := 1; me <= nodes; me++ {
			for draw := -150; draw <= 150; draw++ {
				b := newBoth(me, nodes)
				for range 21 {
					for _, x := range b.tick(t, draw) {
						b.hear(t, answer(x.To, x.Seq, x.To))
					}
				}
			}
		}
	}
}

// A fuzz test's bytes are calls: ticks, frames of five bytes with a rumour of three, told frames, leaving.
func FuzzCalls(f *testing.F) {
	f.Add("\x00\x05\x81\x02\x01\x01\x00\x00\x00\x00\x00\x00\x00\x00\x00\x00\x00", 1, 3)
	f.Add("\x00\x00\x00\x00\x83\x02\x01\x03\x01\x02\x01\x82\x03\x01\x03\x00\x00\x00\xff\x00", 1, 6)
	f.Add("\x80\x01\x00\x00\x02\x7f\x01\x00\x00\x00\x00\x00\x00\x00\x00\x00\x00\xfe\x00", 2, 2)
	f.Fuzz(func(t *testing.T, s string, me, nodes int) {
		if nodes < 1 || nodes > 6 || me < 1 || me > nodes {
			if New(me, nodes) != nil {
				t.Fatalf("New(%d, %d)", me, nodes)
			}
			return
		}
		b := newBoth(me, nodes)
		for i := 0; i < len(s) && i < 800; i++ {
			switch {
			case s[i] == 0xff:
				b.leave(t)
			case s[i] == 0xfe:
				b.tell(t, i, i)
			case s[i] < 0x80:
				b.tick(t, int(s[i])-20)
			case i+6 < len(s):
				inc := int(int8(s[i+5]))
				if inc > 100 {
					inc += 1<<30 - 126
				}
				m := word(int(s[i+4])%8, inc, int(s[i+6])%6-1)
				b.hear(t, api.Frame{Kind: int(s[i]) - 0x80, From: int(s[i+1]), Seq: int(s[i+2]), Node: int(s[i+3]), Rumours: []api.Member{m}})
				i += 6
			}
		}
	})
}
