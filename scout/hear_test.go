package scout

import (
	"fmt"
	"math"
	"reflect"
	"slices"
	"testing"

	"apiary/api"
)

// P12.3: a frame From no other node is nothing, its rumours neither.
func TestHearFrom(t *testing.T) {
	for _, from := range []int{math.MinInt, -1, 0, 2, 5, 6, 7, 1<<32 + 1, math.MaxInt} {
		s := New(2, 4)
		for kind := 0; kind <= 10; kind++ {
			sends(t, s.Hear(api.Frame{Kind: kind, From: from, Seq: 3, Node: 1, Rumours: []api.Member{word(1, 0, 1), word(2, 0, 1)}}))
		}
		knows(t, s, word(1, 0, 0), word(2, 0, 0), word(3, 0, 0), word(4, 0, 0))
		hums(t, s)
		sends(t, s.Tick(0), "2>3 1 1 0 []")
	}
}

// P12.3: a ping is answered with its Seq, whatever it is, in whatever state its sender is known.
func TestHearPing(t *testing.T) {
	for _, seq := range []int{math.MinInt, -1, 0, 1, 7, 1 << 40, math.MaxInt} {
		s := New(2, 3)
		f := api.Frame{Kind: api.FramePing, From: 3, Seq: seq, Node: 1, Data: "x", Found: true}
		sends(t, s.Hear(f), fmt.Sprintf("2>3 2 %d 2 []", seq))
		sends(t, s.Hear(f), fmt.Sprintf("2>3 2 %d 2 []", seq))
	}
	for state := api.Doubted; state <= api.Left; state++ {
		s := New(2, 3)
		heard(s, 1, word(3, 4, state))
		spent(s)
		sends(t, s.Hear(api.Frame{Kind: api.FramePing, From: 3, Seq: 1}), fmt.Sprintf("2>3 2 1 2 [{3 4 %d}]", state))
	}
}

// P12.3: frames of other kinds bring their rumours, and aren't answered.
func TestHearOtherKinds(t *testing.T) {
	kinds := []int{math.MinInt, -1, 0, 4, 5, 6, 7, 8, 9, 10, 11, math.MaxInt}
	for i, kind := range kinds {
		s := New(1, 3)
		sends(t, s.Hear(api.Frame{Kind: kind, From: 2, Seq: 1, Node: 3, Rumours: []api.Member{word(3, i, api.Doubted)}}))
		knows(t, s, word(1, 0, 0), word(2, 0, 0), word(3, i, 1))
	}
}

// P12.3: if its sender is known as anything but alive, that word is pushed again with each frame, ahead of the rumours.
func TestReminded(t *testing.T) {
	for state := api.Alive; state <= api.Left; state++ {
		s := New(1, 3)
		heard(s, 3, word(2, 1, state))
		spent(s)
		s.Hear(api.Frame{Kind: api.FrameWant, From: 2})
		s.Hear(api.Frame{Kind: api.FrameWant, From: 3})
		if state == api.Alive {
			hums(t, s)
			continue
		}
		hums(t, s, rumour(word(2, 1, state), 5))
		s.Tell(ping(2, 0), ping(2, 0))
		heard(s, 2)
		hums(t, s, rumour(word(2, 1, state), 5))
		// The rumour that takes it back comes behind that.
		heard(s, 2, word(2, 2, api.Alive))
		hums(t, s, rumour(word(2, 2, api.Alive), 5))
	}
	// It is what was known ahead of the frame that counts.
	s := New(1, 3)
	heard(s, 2, word(2, 0, api.Gone))
	s.known.Take(6)
	heard(s, 3, word(2, 0, api.Gone))
	hums(t, s, rumour(word(2, 0, api.Gone), 4))
	s = New(1, 3)
	heard(s, 2, word(2, 0, api.Doubted))
	s.known.Take(6)
	heard(s, 2, word(3, 0, api.Doubted))
	hums(t, s, rumour(word(2, 0, 1), 5), rumour(word(3, 0, 1), 5))
}

// P12.3: rumours of others are merged in order, of nodes up to the number, if they can be; what isn't taken isn't told on.
func TestRumoursOfOthers(t *testing.T) {
	s := New(2, 4)
	heard(s, 1, word(3, 0, 1), word(3, 1, 0), word(3, 0, 3), word(5, 0, 1), word(6, 1, 0), word(0, 1, 1), word(7, 1, 1), word(-1, 0, 0),
		word(4, -1, 1), word(4, 1<<30+1, 0), word(4, 0, 4), word(4, 0, -1), word(4, 0, 0), word(1, 1<<30, 3))
	knows(t, s, word(1, 1<<30, 3), word(2, 0, 0), word(3, 1, 0), word(4, 0, 0))
	hums(t, s, rumour(word(1, 1<<30, 3), 5), rumour(word(3, 1, 0), 5))
	s.known.Take(6)
	heard(s, 3, word(3, 1, 0), word(3, 0, 2), word(1, 3, 0))
	hums(t, s, rumour(word(1, 1<<30, 3), 4), rumour(word(3, 1, 0), 4))
}

// P12.3: more rumours than a frame may have are heard all the same.
func TestManyRumours(t *testing.T) {
	var list []api.Member
	for inc := range 500 {
		list = append(list, word(2, inc, api.Alive), word(1, 2*inc, api.Doubted), word(9, inc, 0))
	}
	s := New(1, 2)
	heard(s, 2, list...)
	knows(t, s, word(1, 999, 0), word(2, 499, 0))
}

// P12.3: rumours of itself: one that stands above is answered by a greater word, one below by its own again, the same by nothing.
func TestRumoursOfItself(t *testing.T) {
	table := []struct {
		own     int
		m       api.Member
		inc     int
		isAgain bool
	}{
		{0, word(1, 0, 0), 0, false}, {0, word(1, 0, 1), 1, true}, {0, word(1, 0, 2), 1, true}, {0, word(1, 0, 3), 1, true},
		{0, word(1, 1, 0), 2, true}, {0, word(1, 9, 3), 10, true}, {0, word(1, 1<<30-1, 0), 1 << 30, true},
		{0, word(1, 1<<30, 0), 0, false}, {0, word(1, 1<<30, 3), 0, false}, {0, word(1, 1<<30+1, 0), 0, false},
		{0, word(1, math.MaxInt, 1), 0, false}, {0, word(1, -1, 1), 0, false}, {0, word(1, math.MinInt, 0), 0, false},
		{0, word(1, 3, 4), 0, false}, {0, word(1, 3, -1), 0, false},
		{5, word(1, 5, 0), 5, false}, {5, word(1, 4, 0), 5, true}, {5, word(1, 4, 3), 5, true}, {5, word(1, 0, 0), 5, true},
		{5, word(1, 4, 4), 5, false}, {5, word(1, -1, 0), 5, false}, {5, word(1, 3, -1), 5, false},
		{5, word(1, 5, 1), 6, true}, {5, word(1, 6, 0), 7, true},
		{1 << 30, word(1, 1<<30, 0), 1 << 30, false}, {1 << 30, word(1, 1<<30, 1), 1 << 30, false}, {1 << 30, word(1, 1<<30-1, 3), 1 << 30, true},
	}
	for _, c := range table {
		s := New(1, 3)
		if c.own > 0 {
			heard(s, 2, word(1, c.own-1, 3))
		}
		spent(s)
		heard(s, 3, c.m)
		own := word(1, c.inc, api.Alive)
		knows(t, s, own, word(2, 0, 0), word(3, 0, 0))
		if s.Me() != own {
			t.Errorf("%v of %v: %v", c.m, c.own, s.Me())
		}
		if c.isAgain {
			hums(t, s, rumour(own, 5))
		} else {
			hums(t, s)
		}
	}
}

// P12.3: who asks and tells that it doubts hears the greater word in the answer.
func TestSpeaksUpAtOnce(t *testing.T) {
	s := New(2, 3)
	f := api.Frame{Kind: api.FramePing, From: 1, Seq: 4, Rumours: []api.Member{word(2, 0, api.Doubted)}}
	sends(t, s.Hear(f), "2>1 2 4 2 [{2 1 0}]")
	spent(s)
	sends(t, s.Hear(f), "2>1 2 4 2 [{2 1 0}]")
}

// askFor is a FrameAsk.
func askFor(from, seq, node int) api.Frame {
	return api.Frame{Kind: api.FrameAsk, From: from, Seq: seq, Node: node}
}

// P12.3: whom a node asks for another one.
func TestHearAsk(t *testing.T) {
	for _, node := range []int{math.MinInt, -1, 0, 1, 2, 3, 4, 5, 6, 7, math.MaxInt} {
		s := New(2, 4)
		if node == 1 || node == 4 {
			sends(t, s.Hear(askFor(3, 8, node)), fmt.Sprintf("2>%d 1 1 0 []", node))
			sends(t, s.Hear(askFor(3, 8, node)), fmt.Sprintf("2>%d 1 2 0 []", node))
		} else {
			sends(t, s.Hear(askFor(3, 8, node)))
		}
	}
	// It is asked, too, if it isn't present; pings of rounds and those asked for share their Seqs.
	s := New(1, 3)
	heard(s, 2, word(3, 0, api.Gone))
	sends(t, s.Hear(askFor(2, 1, 3)), "1>3 1 1 0 [{3 0 2}]")
	spent(s)
	sends(t, s.Tick(0), "1>2 1 2 0 []")
	sends(t, s.Hear(askFor(2, 1, 3)), "1>3 1 3 0 []")
	ticks(s, 3)
	spent(s)
	sends(t, s.Tick(0), "1>2 1 4 0 []")
}

// P12.3: an answer to a ping that was asked for is handed on to who asked, with its Seq, once.
func TestHandedOn(t *testing.T) {
	for _, seq := range []int{math.MinInt, -3, 0, 1, 9, math.MaxInt} {
		s := New(2, 4)
		s.Hear(askFor(1, seq, 3))
		s.Hear(askFor(3, seq, 4))
		for _, f := range []api.Frame{answer(1, 1, 3), answer(4, 1, 3), answer(3, 2, 3), answer(3, 0, 3), answer(3, 3, 3), answer(2, 1, 3),
			{Kind: api.FramePart, From: 3, Seq: 1, Node: 3}} {
			sends(t, s.Hear(f))
		}
		sends(t, s.Hear(answer(4, 2, 4)), fmt.Sprintf("2>3 2 %d 4 []", seq))
		sends(t, s.Hear(answer(3, 1, 3)), fmt.Sprintf("2>1 2 %d 3 []", seq))
		sends(t, s.Hear(answer(3, 1, 3)))
		sends(t, s.Hear(answer(4, 2, 4)))
	}
}

// P12.3: what the Node of such an answer is doesn't matter: what is handed on tells who sent it.
func TestHandedOnNode(t *testing.T) {
	for _, node := range []int{math.MinInt, 0, 1, 2, 4, 9} {
		s := New(2, 4)
		s.Hear(askFor(1, 6, 3))
		sends(t, s.Hear(answer(3, 1, node)), "2>1 2 6 3 []")
	}
}

// P12.3: of two who ask for one node each gets its own answer.
func TestHandedOnToEach(t *testing.T) {
	s := New(2, 4)
	s.Hear(askFor(1, 6, 3))
	s.Hear(askFor(4, 6, 3))
	s.Hear(askFor(1, 6, 3))
	sends(t, s.Hear(answer(3, 3, 3)), "2>1 2 6 3 []")
	sends(t, s.Hear(answer(3, 2, 3)), "2>4 2 6 3 []")
	sends(t, s.Hear(answer(3, 1, 3)), "2>1 2 6 3 []")
}

// P12.3: the last 16 pings that were asked for are handed on, however long ago they were sent.
func TestLastSixteen(t *testing.T) {
	for pings := 15; pings <= 40; pings++ {
		s := New(1, 3)
		for i := range pings {
			sends(t, s.Hear(askFor(2, 100+i, 3)), fmt.Sprintf("1>3 1 %d 0 []", i+1))
		}
		for i := range pings {
			got := s.Hear(answer(3, i+1, 3))
			if i < pings-16 {
				sends(t, got)
			} else {
				sends(t, got, fmt.Sprintf("1>2 2 %d 3 []", 100+i))
			}
		}
	}
	s := New(1, 3)
	s.Hear(askFor(2, 7, 3))
	for range 100 {
		for _, x := range s.Tick(0) {
			s.Hear(answer(x.To, x.Seq, x.To))
		}
	}
	sends(t, s.Hear(answer(3, 1, 3)), "1>2 2 7 3 []")
}

// P12.3: pings that were answered are among the last 16; asks that lead to no ping aren't.
func TestLastSixteenOfPings(t *testing.T) {
	s := New(1, 3)
	s.Hear(askFor(2, 50, 3))
	for i := range 15 {
		s.Hear(askFor(2, 60+i, 3))
		s.Hear(askFor(2, 70, 1))
		s.Hear(answer(3, 2+i, 3))
	}
	sends(t, s.Hear(answer(3, 1, 3)), "1>2 2 50 3 []")
	s = New(1, 3)
	s.Hear(askFor(2, 50, 3))
	for i := range 16 {
		s.Hear(askFor(2, 60+i, 3))
		s.Hear(answer(3, 2+i, 3))
	}
	sends(t, s.Hear(answer(3, 1, 3)))
}

// P12.3: an answer to a ping that was asked for says nothing of this node's own round, and the other way about.
func TestOwnAndAskedFor(t *testing.T) {
	s := New(1, 3)
	s.Tick(0) // 3 is asked, Seq 1
	s.Hear(askFor(2, 1, 3))
	sends(t, s.Hear(answer(3, 2, 3)), "1>2 2 1 3 []")
	sends(t, ticks(s, 2), "1>2 3 1 3 []")
	s.Hear(askFor(2, 1, 3))
	sends(t, s.Hear(answer(3, 1, 3)))
	s.Tick(0)
	knows(t, s, word(1, 0, 0), word(2, 0, 0), word(3, 0, 0))
	sends(t, s.Hear(answer(3, 3, 3)), "1>2 2 1 3 []")
}

// P12.4: it leaves once, and tells each other node that is present.
func TestLeave(t *testing.T) {
	s := New(3, 6)
	heard(s, 1, word(1, 0, api.Gone), word(2, 0, api.Doubted), word(5, 3, api.Left), word(3, 6, api.Gone))
	spent(s)
	sends(t, s.Leave(), "3>2 2 0 3 [{3 7 3}]", "3>4 2 0 3 [{3 7 3}]", "3>6 2 0 3 [{3 7 3}]")
	knows(t, s, word(1, 0, 2), word(2, 0, 1), word(3, 7, 3), word(4, 0, 0), word(5, 3, 3), word(6, 0, 0))
	hums(t, s, rumour(word(3, 7, 3), 2))
	sends(t, s.Leave())
	sends(t, s.Leave())
	hums(t, s, rumour(word(3, 7, 3), 2))
	s = New(1, 1)
	sends(t, s.Leave())
	knows(t, s, word(1, 0, 3))
	hums(t, s, rumour(word(1, 0, 3), 5))
	s = New(2, 2)
	heard(s, 1, word(2, 1<<30-1, 1))
	sends(t, s.Leave(), fmt.Sprintf("2>1 2 0 2 [{2 %d 3}]", 1<<30))
}

// P12.2, P12.3: who left sends nothing any more, holds nobody for gone, and hears of others alone.
func TestHasLeft(t *testing.T) {
	s := New(1, 4)
	s.Hear(askFor(2, 5, 3))
	heard(s, 2, word(3, 0, api.Doubted))
	s.Leave()
	for _, f := range []api.Frame{{Kind: api.FramePing, From: 2, Seq: 1}, askFor(2, 5, 4), answer(3, 1, 3)} {
		sends(t, s.Hear(f))
	}
	for range 60 {
		sends(t, s.Tick(0))
	}
	heard(s, 2, word(1, 5, api.Alive), word(1, 0, api.Gone), word(1, 0, api.Left), word(4, 2, api.Doubted), word(2, 1, api.Alive))
	knows(t, s, word(1, 0, 3), word(2, 1, 0), word(3, 0, 1), word(4, 2, 1))
	for range 60 {
		sends(t, s.Tick(0))
	}
	knows(t, s, word(1, 0, 3), word(2, 1, 0), word(3, 0, 1), word(4, 2, 1))
}

// P12.3: what is said of who left isn't answered by a word of its own, not even by the same one again.
func TestLeftIsSilent(t *testing.T) {
	s := New(1, 2)
	heard(s, 2, word(1, 3, api.Gone))
	s.Leave()
	spent(s)
	heard(s, 2, word(1, 4, api.Left), word(1, 0, api.Alive), word(1, 9, api.Alive), word(1, 4, api.Gone))
	hums(t, s)
	if s.Me() != word(1, 4, api.Left) {
		t.Errorf("itself: %v", s.Me())
	}
}

// spoil writes over a list and its spare room.
func spoil[T any](list []T, by T) {
	list = list[:cap(list)]
	for i := range list {
		list[i] = by
	}
}

// spoilFrame writes over all lists of a frame.
func spoilFrame(f api.Frame) {
	spoil(f.Rumours, word(5, 5, 2))
	spoil(f.Mani.Parts, api.Digest{99})
	spoil(f.Ranges, api.Range{Depth: 99})
	spoil(f.Items, api.Record{Code: 99})
}

// Rule 3: what Tell answers shares nothing with what it was given, nor one list with another one, nor with the scout.
func TestTellMemory(t *testing.T) {
	s, twin := New(1, 4), New(1, 4)
	for _, x := range []*Scout{s, twin} {
		heard(x, 2, word(3, 0, 1), word(4, 1, 0))
	}
	one := fullFrame()
	given := make([]api.Sent, 2, 4)
	given[0], given[1] = api.Sent{To: 2, Frame: one}, api.Sent{To: 3, Frame: one}
	got, want := s.Tell(given...), twin.Tell(api.Sent{To: 2, Frame: fullFrame()}, api.Sent{To: 3, Frame: fullFrame()})
	if !reflect.DeepEqual(one, fullFrame()) || !reflect.DeepEqual(given[1].Frame, fullFrame()) || !reflect.DeepEqual(given[:4][3], api.Sent{}) {
		t.Errorf("what was given is %v now", given)
	}
	spoilFrame(got[0].Frame)
	spoil(got[2:], api.Sent{To: 99})
	if !reflect.DeepEqual(got[1], want[1]) {
		t.Errorf("the second frame is %v, not %v", got[1], want[1])
	}
	if !reflect.DeepEqual(one, fullFrame()) {
		t.Errorf("what was given is %v now", one)
	}
	spoilFrame(given[0].Frame)
	if !reflect.DeepEqual(got[1], want[1]) {
		t.Errorf("the second frame is %v, not %v", got[1], want[1])
	}
	sends(t, s.Tell(ping(2, 1)), text(twin.Tell(ping(2, 1))))
}

// Rule 3: what Hear is given isn't changed and isn't kept; what is answered can be written over.
func TestHearMemory(t *testing.T) {
	s, twin := New(1, 6), New(1, 6)
	for step := range 60 {
		whole := []api.Member{word(2+step%5, step, step%3), word(1, step, 1), word(3, 1, 3), word(6, 6, 3)}
		was := slices.Clone(whole)
		f := api.Frame{Kind: 1 + step%3, From: 2 + step%4, Seq: step % 4, Node: 2 + step%5, Rumours: whole[:3]}
		got, want := s.Hear(f), twin.Hear(api.Frame{Kind: f.Kind, From: f.From, Seq: f.Seq, Node: f.Node, Rumours: slices.Clone(was[:3])})
		if !slices.Equal(whole, was) {
			t.Fatalf("the rumours are %v now", whole)
		}
		sends(t, got, text(want))
		spoil(whole, word(4, 99, 3))
		got = append(got, s.Tick(step)...)
		sends(t, got, text(append(want, twin.Tick(step)...)))
		for _, x := range got {
			spoilFrame(x.Frame)
		}
		spoil(got, api.Sent{To: 99})
		spoil(s.All(), word(5, 99, 3))
		spoil(s.Present(), 99)
		knows(t, s, twin.All()...)
	}
	sends(t, s.Leave(), text(twin.Leave()))
}

// Rule 4: scouts know nothing of one another.
func TestScoutsApart(t *testing.T) {
	a, b := New(1, 3), New(1, 3)
	heard(a, 2, word(3, 0, 1), word(1, 0, 1))
	a.Tick(0)
	a.Hear(askFor(2, 1, 3))
	knows(t, b, word(1, 0, 0), word(2, 0, 0), word(3, 0, 0))
	sends(t, b.Hear(answer(3, 2, 3)))
	sends(t, b.Tick(1), "1>2 1 1 0 []")
	sends(t, New(1, 3).Tick(1), "1>2 1 1 0 []")
}
