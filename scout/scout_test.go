package scout

import (
	"fmt"
	"math"
	"reflect"
	"slices"
	"strings"
	"testing"

	"apiary/api"
)

// word is a member, written short.
func word(node, inc, state int) api.Member {
	return api.Member{Node: node, Inc: inc, State: state}
}

// text is frames, each as "from>to kind seq node [rumours]". Whatever else a frame has is told behind it.
func text(list []api.Sent) string {
	var lines []string
	for _, x := range list {
		line := fmt.Sprintf("%d>%d %d %d %d %v", x.From, x.To, x.Kind, x.Seq, x.Node, x.Rumours)
		rest := x.Frame
		rest.From, rest.Kind, rest.Seq, rest.Node, rest.Rumours = 0, 0, 0, 0, nil
		if !reflect.DeepEqual(rest, api.Frame{}) {
			line += fmt.Sprint(" and ", rest)
		}
		lines = append(lines, line)
	}
	return strings.Join(lines, "; ")
}

// sends fails unless just these frames are sent.
func sends(t *testing.T, got []api.Sent, want ...string) {
	t.Helper()
	if text(got) != strings.Join(want, "; ") {
		t.Errorf("sent: %q, not %q", text(got), strings.Join(want, "; "))
	}
}

// knows fails unless just these words are known.
func knows(t *testing.T, s *Scout, want ...api.Member) {
	t.Helper()
	if got := s.All(); !slices.Equal(got, want) {
		t.Errorf("known: %v, not %v", got, want)
	}
}

// hums fails unless just these rumours are to be told on.
func hums(t *testing.T, s *Scout, want ...api.Rumour) {
	t.Helper()
	if got := s.known.Left(); !slices.Equal(got, want) {
		t.Errorf("rumours: %v, not %v", got, want)
	}
}

// rumour is a word that is to be told so many times yet.
func rumour(m api.Member, more int) api.Rumour {
	return api.Rumour{Member: m, More: more}
}

// ticks lets time go on with the draw 0; nothing but the last tick's frames are answered.
func ticks(s *Scout, n int) []api.Sent {
	var sent []api.Sent
	for range n {
		sent = s.Tick(0)
	}
	return sent
}

// heard: rumours come from a node.
func heard(s *Scout, from int, list ...api.Member) []api.Sent {
	return s.Hear(api.Frame{From: from, Rumours: list})
}

// answer is a FrameAck.
func answer(from, seq, node int) api.Frame {
	return api.Frame{Kind: api.FrameAck, From: from, Seq: seq, Node: node}
}

// spent is a scout whose hum has nothing left to tell.
func spent(s *Scout) *Scout {
	for len(s.known.Left()) > 0 {
		s.known.Take(6)
	}
	return s
}

// P12.1: which scouts there can be, and what they know at first.
func TestNew(t *testing.T) {
	numbers := []int{math.MinInt, -6, -1, 0, 1, 2, 3, 4, 5, 6, 7, 8, 1<<32 + 1, math.MaxInt}
	for _, me := range numbers {
		for _, nodes := range numbers {
			s, can := New(me, nodes), nodes >= 1 && nodes <= 6 && me >= 1 && me <= nodes
			if (s != nil) != can {
				t.Errorf("New(%d, %d): %v", me, nodes, s)
			}
			if !can {
				continue
			}
			var all []api.Member
			var present []int
			for node := 1; node <= nodes; node++ {
				all, present = append(all, word(node, 0, api.Alive)), append(present, node)
			}
			knows(t, s, all...)
			hums(t, s)
			if got := s.Present(); !slices.Equal(got, present) {
				t.Errorf("New(%d, %d): present: %v", me, nodes, got)
			}
			if s.Me() != word(me, 0, api.Alive) {
				t.Errorf("New(%d, %d): %v", me, nodes, s.Me())
			}
		}
	}
}

// P12.1: of a nil scout nothing.
func TestNilScout(t *testing.T) {
	var s *Scout
	for _, draw := range []int{math.MinInt, -1, 0, 1, math.MaxInt} {
		sends(t, s.Tick(draw))
	}
	for kind := -1; kind < 12; kind++ {
		sends(t, s.Hear(api.Frame{Kind: kind, From: 1, Node: 2, Rumours: []api.Member{word(1, 0, 1)}}))
	}
	sends(t, s.Leave())
	sends(t, s.Tell())
	sends(t, s.Tell(ping(2, 1), ack(1, 2, 3)))
	knows(t, s)
	if s.Present() != nil || s.Me() != (api.Member{}) {
		t.Errorf("nil: %v, %v", s.Present(), s.Me())
	}
}

// P12.1: All, Present and Me are what the view knows, in each state.
func TestWhatIsKnown(t *testing.T) {
	s := New(3, 6)
	heard(s, 1, word(1, 2, api.Alive), word(2, 0, api.Doubted), word(4, 1, api.Gone), word(5, 0, api.Left), word(6, 7, api.Doubted))
	knows(t, s, word(1, 2, 0), word(2, 0, 1), word(3, 0, 0), word(4, 1, 2), word(5, 0, 3), word(6, 7, 1))
	if got := s.Present(); !slices.Equal(got, []int{1, 2, 3, 6}) {
		t.Errorf("present: %v", got)
	}
	heard(s, 1, word(3, 4, api.Gone))
	if s.Me() != word(3, 5, api.Alive) {
		t.Errorf("itself: %v", s.Me())
	}
	s.Leave()
	if got := s.Present(); !slices.Equal(got, []int{1, 2, 6}) || s.Me() != word(3, 5, api.Left) {
		t.Errorf("left: %v, %v", got, s.Me())
	}
}

// fullFrame is a frame each of whose fields has something.
func fullFrame() api.Frame {
	d := api.Digest{1, 2}
	return api.Frame{Kind: 99, From: -7, Seq: math.MinInt, Node: math.MaxInt, Key: d, Found: true, Record: api.Record{Key: d, Code: 3, Out: d},
		Out: d, At: -5, Data: "data", Haze: api.Haze{9}, Mani: api.Manifest{Whole: d, Size: -1, Parts: []api.Digest{d, {}}},
		Ranges: []api.Range{{Depth: 1}, {Count: -2}}, Items: []api.Record{{Key: d}, {Out: d}}, Rumours: []api.Member{word(9, 9, 9)}}
}

// P12.1: Tell sends frames as they are, to whom they go, From this node, with rumours frame by frame.
func TestTell(t *testing.T) {
	s := New(2, 6)
	sends(t, s.Tell())
	heard(s, 3, word(1, 1, 0), word(3, 1, 0), word(4, 1, 0), word(5, 1, 0), word(6, 1, 0), word(2, 0, 1))
	list := []api.Sent{{To: -3, Frame: fullFrame()}, {To: 2}, {To: math.MaxInt, Frame: fullFrame()}}
	got := s.Tell(list...)
	rumours := []api.Member{word(1, 1, 0), word(2, 1, 0), word(3, 1, 0), word(4, 1, 0), word(5, 1, 0), word(6, 1, 0)}
	if len(got) != len(list) {
		t.Fatalf("%d frames: %v", len(got), got)
	}
	for i, x := range got {
		want := list[i]
		want.From, want.Rumours = 2, rumours
		if !reflect.DeepEqual(x, want) {
			t.Errorf("frame %d: %v, not %v", i, x, want)
		}
	}
	for range 2 {
		sends(t, s.Tell(ping(1, 7)), "2>1 1 7 0 "+fmt.Sprint(rumours))
	}
	sends(t, s.Tell(ping(1, 8), ack(1, 0, 4)), "2>1 1 8 0 []", "2>1 2 0 4 []")
}

// Words: each word that was learnt is told five times, in whatever frames; a left node tells, too.
func TestToldFiveTimes(t *testing.T) {
	s := New(1, 3)
	heard(s, 2, word(3, 0, api.Doubted))
	sends(t, s.Tick(0), "1>3 1 1 0 [{3 0 1}]")
	sends(t, s.Hear(api.Frame{Kind: api.FramePing, From: 2, Seq: 5}), "1>2 2 5 1 [{3 0 1}]")
	sends(t, s.Tell(ping(9, 9)), "1>9 1 9 0 [{3 0 1}]")
	sends(t, s.Leave(), "1>2 2 0 1 [{1 0 3} {3 0 1}]", "1>3 2 0 1 [{1 0 3} {3 0 1}]")
	for range 3 {
		sends(t, s.Tell(ping(2, 0)), "1>2 1 0 0 [{1 0 3}]")
	}
	sends(t, s.Tell(ping(2, 0)), "1>2 1 0 0 []")
}

// Words: a frame has at most six rumours, the freshest first.
func TestSixRumours(t *testing.T) {
	s := New(6, 6)
	heard(s, 1, word(1, 1, 0), word(2, 1, 0))
	sends(t, s.Tell(ping(1, 1)), "6>1 1 1 0 [{1 1 0} {2 1 0}]")
	heard(s, 1, word(5, 1, 0), word(4, 1, 0), word(3, 1, 0), word(6, 2, 1))
	sends(t, s.Tell(ping(1, 1)), "6>1 1 1 0 [{3 1 0} {4 1 0} {5 1 0} {6 3 0} {1 1 0} {2 1 0}]")
}

// asked are the nodes that are asked in the first rounds, each of which answers at once.
func asked(t *testing.T, s *Scout, rounds int, draws ...int) []int {
	t.Helper()
	var nodes []int
	for round := range rounds {
		sent := s.Tick(draws[round%len(draws)])
		if len(sent) != 1 || sent[0].Kind != api.FramePing || sent[0].Seq != round+1 {
			t.Fatalf("round %d: sent: %v", round+1, text(sent))
		}
		nodes = append(nodes, sent[0].To)
		s.Hear(answer(sent[0].To, sent[0].Seq, sent[0].To))
		for range 3 {
			sends(t, s.Tick(math.MaxInt))
		}
	}
	return nodes
}

// P12.2: the line, by the draw with which it is laid; draws between don't matter.
func TestLine(t *testing.T) {
	table := []struct {
		me, nodes, draw int
		want            []int
	}{
		{1, 2, 0, []int{2}}, {1, 2, -5, []int{2}}, {2, 2, math.MaxInt, []int{1}},
		{1, 3, 0, []int{3, 2}}, {1, 3, 1, []int{2, 3}}, {1, 3, 2, []int{3, 2}}, {1, 3, -1, []int{2, 3}}, {2, 3, 3, []int{1, 3}},
		// 1 3 4: with 5 the third one stays (5 modulo 3), then the second one stays (1 modulo 2).
		{2, 4, 5, []int{1, 3, 4}}, {2, 4, 0, []int{3, 4, 1}}, {2, 4, 1, []int{4, 1, 3}}, {2, 4, 2, []int{3, 1, 4}},
		// -1: 2 modulo 3, the rest 0. -4: 2 modulo 3, the rest -1, which is 1 modulo 2. -6: 0 modulo 3, the rest -2.
		{2, 4, -1, []int{3, 1, 4}}, {2, 4, -4, []int{1, 3, 4}}, {2, 4, -6, []int{3, 4, 1}}, {2, 4, -3, []int{4, 3, 1}},
		// 119 is 4, 3, 2, 1 of 5, 4, 3, 2: all stay.
		{6, 6, 119, []int{1, 2, 3, 4, 5}}, {6, 6, 239, []int{1, 2, 3, 4, 5}}, {1, 6, 0, []int{3, 4, 5, 6, 2}},
		{1, 6, 120, []int{3, 4, 5, 6, 2}}, {1, 6, -1, []int{3, 4, 5, 2, 6}},
		{3, 5, math.MinInt, []int{4, 5, 2, 1}}, {3, 5, math.MaxInt, []int{4, 1, 2, 5}},
	}
	for _, c := range table {
		got := asked(t, New(c.me, c.nodes), 2*len(c.want), c.draw)
		if want := slices.Concat(c.want, c.want); !slices.Equal(got, want) {
			t.Errorf("New(%d, %d), draw %d: asked %v, not %v", c.me, c.nodes, c.draw, got, want)
		}
	}
}

// P12.2: it is the draw of the tick in which the line is empty that counts.
func TestLineLaidAnew(t *testing.T) {
	got := asked(t, New(1, 3), 6, 0, 1, 1, 0, 0, 1)
	if want := []int{3, 2, 2, 3, 3, 2}; !slices.Equal(got, want) {
		t.Errorf("asked %v, not %v", got, want)
	}
}

// P12.2: a node alone, and one whose others are all gone, asks nobody, and no Seq is spent.
func TestNobodyToAsk(t *testing.T) {
	s := New(1, 1)
	for range 40 {
		sends(t, s.Tick(7))
	}
	knows(t, s, word(1, 0, 0))
	s = New(1, 2)
	heard(s, 2, word(2, 0, api.Left))
	for range 12 {
		sends(t, s.Tick(7))
	}
	sends(t, s.Tick(7), "1>2 1 1 0 [{2 0 3}]")
}

// P12.2: those in line that aren't present any more are passed over; who is present again when its turn comes is asked.
func TestPassedOver(t *testing.T) {
	s := New(1, 4)
	s.Tick(5) // 2 3 4
	heard(s, 2, word(3, 0, api.Gone))
	s.Hear(answer(2, 1, 2))
	ticks(s, 3)
	sends(t, s.Tick(0), "1>4 1 2 0 [{3 0 2}]")
	s.Hear(answer(4, 2, 4))
	heard(s, 2, word(3, 1, api.Alive))
	ticks(s, 3)
	sends(t, s.Tick(5), "1>2 1 3 0 [{3 1 0}]") // 2 3 4 again
	s.Hear(answer(2, 3, 2))
	heard(s, 2, word(3, 1, api.Left))
	heard(s, 2, word(3, 2, api.Alive))
	spent(s)
	ticks(s, 3)
	sends(t, s.Tick(0), "1>3 1 4 0 []")
}

// P12.2: if all who are left in line aren't present any more, it is laid anew at once, with that tick's draw.
func TestAllPassedOver(t *testing.T) {
	s := New(1, 5)
	s.Tick(23) // 2 3 4 5
	s.Hear(answer(2, 1, 2))
	heard(s, 2, word(3, 0, api.Gone), word(4, 0, api.Left), word(5, 0, api.Gone))
	spent(s)
	ticks(s, 3)
	sends(t, s.Tick(0), "1>2 1 2 0 []")
	s.Hear(answer(2, 2, 2))
	heard(s, 2, word(5, 1, api.Alive))
	spent(s)
	ticks(s, 3)
	sends(t, s.Tick(0), "1>5 1 3 0 []")
	s.Hear(answer(5, 3, 5))
	heard(s, 5, word(2, 0, api.Gone), word(5, 1, api.Gone))
	spent(s)
	ticks(s, 7)
	sends(t, s.Tick(0))
}

// P12.2: who is doubted is asked, as it is present.
func TestDoubtedIsAsked(t *testing.T) {
	s := New(1, 2)
	heard(s, 2, word(2, 0, api.Doubted))
	sends(t, s.Tick(0), "1>2 1 1 0 [{2 0 1}]")
	sends(t, s.Tick(0))
	sends(t, s.Tick(0))
	sends(t, s.Tick(0))
	knows(t, s, word(1, 0, 0), word(2, 0, 1))
}

// P12.2: in the rounds 4, 8, 12, .. one of those who aren't present is asked instead, and the line stays.
func TestSought(t *testing.T) {
	s := New(2, 6)
	heard(s, 4, word(1, 0, api.Gone), word(3, 2, api.Left), word(6, 1, api.Gone))
	spent(s)
	var got []int
	for round := 1; round <= 24; round++ {
		sent := s.Tick(1)
		if len(sent) != 1 || sent[0].Kind != api.FramePing || sent[0].Seq != round {
			t.Fatalf("round %d: %v", round, text(sent))
		}
		node, want := sent[0].To, "[]"
		if round%4 == 0 {
			want = fmt.Sprint([]api.Member{s.known.of(node)})
		}
		if fmt.Sprint(sent[0].Rumours) != want {
			t.Errorf("round %d: rumours %v, not %s", round, sent[0].Rumours, want)
		}
		got = append(got, node)
		s.Hear(answer(node, round, node))
		spent(s)
		ticks(s, 3)
	}
	want := []int{4, 5, 4, 3, 5, 4, 5, 6, 4, 5, 4, 1, 5, 4, 5, 3, 4, 5, 4, 6, 5, 4, 5, 1}
	if !slices.Equal(got, want) {
		t.Errorf("asked %v, not %v", got, want)
	}
}

// P12.2: with nobody absent the line goes on in round 4, and one alone is sought each time.
func TestSoughtOfFew(t *testing.T) {
	if got := asked(t, New(1, 3), 8, 1); !slices.Equal(got, []int{2, 3, 2, 3, 2, 3, 2, 3}) {
		t.Errorf("asked %v", got)
	}
	s := New(1, 3)
	heard(s, 3, word(2, 3, api.Gone))
	if got := asked(t, s, 12, 1); !slices.Equal(got, []int{3, 3, 3, 2, 3, 3, 3, 2, 3, 3, 3, 2}) {
		t.Errorf("asked %v", got)
	}
	knows(t, s, word(1, 0, 0), word(2, 3, 2), word(3, 0, 0))
}

// P12.2: who is sought and doesn't answer is asked for by others, too, and isn't doubted; it stays as it is.
func TestSoughtDoesntAnswer(t *testing.T) {
	s := New(1, 4)
	heard(s, 2, word(3, 0, api.Gone))
	for round := 1; round <= 3; round++ {
		sent := s.Tick(5)
		s.Hear(answer(sent[0].To, round, sent[0].To))
		ticks(s, 3)
	}
	spent(s)
	sends(t, s.Tick(5), "1>3 1 4 0 [{3 0 2}]")
	sends(t, s.Tick(5))
	sends(t, s.Tick(5), "1>4 3 4 3 [{3 0 2}]", "1>2 3 4 3 [{3 0 2}]")
	sends(t, s.Tick(5))
	knows(t, s, word(1, 0, 0), word(2, 0, 0), word(3, 0, 2), word(4, 0, 0))
	hums(t, s, rumour(word(3, 0, 2), 2))
}

// firstAsked is a scout that asked a node in its first round, and three ticks of it.
func firstAsked(t *testing.T, me, nodes, node int, absent ...int) (*Scout, []api.Sent) {
	t.Helper()
	for draw := range 120 {
		s := New(me, nodes)
		for _, other := range absent {
			heard(s, 1+me%nodes, word(other, 0, api.Gone))
		}
		spent(s)
		if sent := s.Tick(draw); len(sent) == 1 && sent[0].To == node {
			sends(t, s.Tick(0))
			return s, s.Tick(0)
		}
	}
	t.Fatalf("%d of %d never asks %d", me, nodes, node)
	return nil, nil
}

// P12.2: who is asked to ask: the next two behind who was asked, round and round.
func TestHelpers(t *testing.T) {
	table := []struct {
		me, nodes, node int
		absent          []int
		want            []string
	}{
		{1, 2, 2, nil, nil},
		{1, 3, 2, nil, []string{"1>3 3 1 2 []"}},
		{1, 3, 3, nil, []string{"1>2 3 1 3 []"}},
		{2, 4, 3, nil, []string{"2>4 3 1 3 []", "2>1 3 1 3 []"}},
		{2, 4, 4, nil, []string{"2>1 3 1 4 []", "2>3 3 1 4 []"}},
		{1, 6, 3, nil, []string{"1>4 3 1 3 []", "1>5 3 1 3 []"}},
		{1, 6, 5, nil, []string{"1>6 3 1 5 []", "1>2 3 1 5 []"}},
		{1, 6, 6, nil, []string{"1>2 3 1 6 []", "1>3 3 1 6 []"}},
		{4, 6, 3, nil, []string{"4>5 3 1 3 []", "4>6 3 1 3 []"}},
		{6, 6, 5, nil, []string{"6>1 3 1 5 []", "6>2 3 1 5 []"}},
		{1, 6, 3, []int{4, 6}, []string{"1>5 3 1 3 []", "1>2 3 1 3 []"}},
		{1, 6, 3, []int{2, 5, 6}, []string{"1>4 3 1 3 []"}},
		{1, 4, 3, []int{2, 4}, nil},
	}
	for _, c := range table {
		_, sent := firstAsked(t, c.me, c.nodes, c.node, c.absent...)
		sends(t, sent, c.want...)
	}
}

// P12.2: a doubted node is asked to ask; one that is known as gone since the ping isn't; who was asked is asked for whatever is known of it.
func TestHelpersNow(t *testing.T) {
	s := New(1, 5)
	sends(t, s.Tick(23), "1>2 1 1 0 []")
	heard(s, 5, word(2, 0, api.Gone), word(3, 0, api.Gone), word(4, 0, api.Doubted))
	spent(s)
	s.Tick(0)
	sends(t, s.Tick(0), "1>4 3 1 2 []", "1>5 3 1 2 []")
	s.Tick(0)
	knows(t, s, word(1, 0, 0), word(2, 0, 2), word(3, 0, 2), word(4, 0, 1), word(5, 0, 0))
}

// P12.2: who answers ahead of the third tick isn't asked for by others; who answers ahead of the fourth one isn't doubted.
func TestAnswered(t *testing.T) {
	for tick := 1; tick <= 4; tick++ {
		s := New(1, 3)
		for now := 1; now <= 4; now++ {
			sent := s.Tick(0) // 3 is asked
			if now == 3 && tick >= 3 {
				sends(t, sent, "1>2 3 1 3 []")
			} else if now > 1 {
				sends(t, sent)
			}
			if now == tick {
				sends(t, s.Hear(answer(3, 1, 3)))
			}
		}
		state := api.Alive
		if tick == 4 {
			state = api.Doubted
		}
		knows(t, s, word(1, 0, 0), word(2, 0, 0), word(3, 0, state))
	}
}

// P12.3: which answers count: the ping's Seq, Node who was asked, From it or one that was asked to ask it.
func TestWhichAnswerCounts(t *testing.T) {
	table := []struct {
		f    api.Frame
		want bool
	}{
		{answer(3, 1, 3), true}, {answer(4, 1, 3), true}, {answer(5, 1, 3), true},
		{answer(2, 1, 3), false}, {answer(6, 1, 3), false}, {answer(1, 1, 3), false}, {answer(7, 1, 3), false}, {answer(0, 1, 3), false},
		{answer(3, 0, 3), false}, {answer(3, 2, 3), false}, {answer(3, -1, 3), false}, {answer(4, 1<<32+1, 3), false},
		{answer(3, 1, 0), false}, {answer(3, 1, 1), false}, {answer(3, 1, 4), false}, {answer(4, 1, 4), false}, {answer(4, 1, 0), false},
		{api.Frame{Kind: api.FramePing, From: 3, Seq: 1, Node: 3}, false}, {api.Frame{Kind: api.FrameAsk, From: 3, Seq: 1, Node: 3}, false},
		{api.Frame{Kind: api.FrameHave, From: 3, Seq: 1, Node: 3}, false}, {api.Frame{From: 3, Seq: 1, Node: 3}, false},
	}
	for _, c := range table {
		s, sent := firstAsked(t, 1, 6, 3)
		sends(t, sent, "1>4 3 1 3 []", "1>5 3 1 3 []")
		s.Hear(c.f)
		s.Tick(0)
		if got := s.known.of(3) == word(3, 0, api.Alive); got != c.want {
			t.Errorf("%v: %v is known", c.f, s.known.of(3))
		}
	}
}

// P12.3: who is going to be asked to ask hasn't been yet: its answer ahead of that doesn't count; nor one of another round.
func TestAnswerOfNow(t *testing.T) {
	s := New(2, 4)
	s.Tick(0) // 3 is asked
	s.Tick(0)
	s.Hear(answer(4, 1, 3))
	sends(t, s.Tick(0), "2>4 3 1 3 []", "2>1 3 1 3 []")
	s.Tick(0)
	knows(t, s, word(1, 0, 0), word(2, 0, 0), word(3, 0, 1), word(4, 0, 0))
	spent(s)
	sends(t, s.Tick(0), "2>4 1 2 0 []")
	s.Hear(answer(3, 1, 3))
	s.Hear(answer(4, 1, 4))
	s.Hear(answer(1, 2, 4)) // it was asked to ask in the round ahead of this one
	spent(s)
	sends(t, ticks(s, 2), "2>1 3 2 4 []", "2>3 3 2 4 []")
	s.Tick(0)
	knows(t, s, word(1, 0, 0), word(2, 0, 0), word(3, 0, 1), word(4, 0, 1))
}

// P12.2: who doesn't answer is doubted in the fourth tick, in the word that is known then, and gone eight ticks later. The chapter's example.
func TestDoubtedAndGone(t *testing.T) {
	for _, inc := range []int{0, 1, 1 << 30} {
		s := New(1, 3)
		sends(t, s.Tick(0), "1>3 1 1 0 []")
		if inc > 0 {
			heard(s, 2, word(3, inc, api.Alive))
		}
		spent(s)
		sends(t, s.Tick(0))
		sends(t, s.Tick(0), "1>2 3 1 3 []")
		knows(t, s, word(1, 0, 0), word(2, 0, 0), word(3, inc, 0))
		sends(t, s.Tick(0))
		for tick := 4; tick < 12; tick++ {
			knows(t, s, word(1, 0, 0), word(2, 0, 0), word(3, inc, 1))
			if tick == 4 {
				hums(t, s, rumour(word(3, inc, 1), 5))
			}
			for _, x := range s.Tick(0) {
				s.Hear(answer(x.To, x.Seq, x.To))
			}
		}
		knows(t, s, word(1, 0, 0), word(2, 0, 0), word(3, inc, 2))
		if got := s.known.Left(); !slices.Contains(got, rumour(word(3, inc, 2), 5)) {
			t.Errorf("rumours: %v", got)
		}
	}
}

// P12.2: a doubt that was heard counts from the tick in which it was; a doubt in a greater word begins anew, the same one doesn't.
func TestDoubtedSince(t *testing.T) {
	for start := range 9 {
		s := New(1, 2)
		for range start {
			for _, x := range s.Tick(0) {
				s.Hear(answer(x.To, x.Seq, x.To))
			}
		}
		heard(s, 2, word(2, 1, api.Doubted))
		for range 7 {
			s.Tick(0)
			heard(s, 2, word(2, 1, api.Doubted), word(2, 0, api.Gone))
			knows(t, s, word(1, 0, 0), word(2, 1, 1))
		}
		heard(s, 2, word(2, 2, api.Doubted))
		for range 7 {
			s.Tick(0)
			knows(t, s, word(1, 0, 0), word(2, 2, 1))
		}
		s.Tick(0)
		knows(t, s, word(1, 0, 0), word(2, 2, 2))
	}
}

// P12.2: who is alive again, in a greater word, isn't gone eight ticks later; who is doubted again is so from then on.
func TestDoubtTakenBack(t *testing.T) {
	s := New(1, 2)
	heard(s, 2, word(2, 0, api.Doubted))
	live := func(n int) {
		for range n {
			for _, x := range s.Tick(0) {
				s.Hear(answer(x.To, x.Seq, x.To))
			}
		}
	}
	live(6)
	heard(s, 2, word(2, 1, api.Alive))
	live(5)
	knows(t, s, word(1, 0, 0), word(2, 1, 0))
	heard(s, 2, word(2, 1, api.Doubted))
	live(7)
	knows(t, s, word(1, 0, 0), word(2, 1, 1))
	live(1)
	knows(t, s, word(1, 0, 0), word(2, 1, 2))
}

// P12.2: several that are overdue in one tick are all gone in it, each in its own word.
func TestSeveralGone(t *testing.T) {
	s := New(2, 6)
	heard(s, 1, word(6, 3, api.Doubted), word(4, 0, api.Doubted), word(1, 1, api.Doubted))
	ticks(s, 3)
	s.Tick(0)
	heard(s, 1, word(5, 2, api.Doubted))
	ticks(s, 4)
	if got := s.All(); got[0] != word(1, 1, 2) || got[3].State != api.Gone || got[4].State != api.Doubted || got[5] != word(6, 3, 2) {
		t.Errorf("known: %v", got)
	}
}

// P12.2: a tick is in order: what is sent in it doesn't tell yet who is held for gone in it, and who is overdue is present till then.
func TestTickInOrder(t *testing.T) {
	s := New(1, 2)
	s.Tick(0)
	s.Hear(answer(2, 1, 2))
	heard(s, 2, word(2, 0, api.Doubted))
	spent(s)
	ticks(s, 3)
	sends(t, s.Tick(0), "1>2 1 2 0 []")
	ticks(s, 3)
	sends(t, s.Tick(0), "1>2 1 3 0 []")
	knows(t, s, word(1, 0, 0), word(2, 0, 2))
	sends(t, s.Tell(ping(2, 0)), "1>2 1 0 0 [{2 0 2}]")
}
