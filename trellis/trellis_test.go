package trellis

import (
	"fmt"
	"reflect"
	"slices"
	"strings"
	"testing"

	"apiary/api"
)

// act is an action without code.
func act(name string, inputs ...string) api.Action {
	return api.Action{Named: api.Named{Name: name}, Inputs: inputs}
}

// build is a build of sources, told as words, and actions.
func build(sources string, actions ...api.Action) api.Graph {
	return api.Graph{Sources: strings.Fields(sources), Actions: actions}
}

// coded is an action with so many bytes of code.
func coded(bytes int, a api.Action) api.Action {
	a.Code = strings.Repeat("r", bytes)
	return a
}

// chain is a build of n actions, each of which stands on the next one, the last one on a source.
func chain(n int) api.Graph {
	g := build("s1")
	for i := range n - 1 {
		g.Actions = append(g.Actions, act(fmt.Sprint("c", i), fmt.Sprint("c", i+1)))
	}
	g.Actions = append(g.Actions, act(fmt.Sprint("c", n-1), "s1"))
	return g
}

// widest is a build of as much as there can be: each action stands on four of those behind it, or on sources.
func widest() api.Graph {
	g := build("s0 s1 s2 s3 s4 s5 s6 s7")
	for i := range 12 {
		a := coded(64, act(fmt.Sprintf("action%02d", i)))
		for j := i + 1; j <= i+4; j++ {
			if j < 12 {
				a.Inputs = append(a.Inputs, fmt.Sprintf("action%02d", j))
			} else {
				a.Inputs = append(a.Inputs, fmt.Sprint("s", j-12))
			}
		}
		g.Actions = append(g.Actions, a)
	}
	return g
}

// checked is a build, and what Check answers.
type checked struct {
	g api.Graph
	e api.Errno
}

// checkAll fails unless Check answers so, and of a build that can't be the others tell nothing.
func checkAll(t *testing.T, table []checked) {
	t.Helper()
	for i, c := range table {
		if e := Check(c.g); e != c.e {
			t.Errorf("%d, %.200s: %d, not %d", i, fmt.Sprint(c.g), e, c.e)
		}
		if order := Order(c.g); c.e == 0 && len(order) != len(c.g.Actions) || c.e != 0 && len(order) != 0 {
			t.Errorf("%d: the order is %v", i, order)
		}
		if c.e == 0 {
			continue
		}
		for _, s := range []string{"a", "b", "x", "y", "z", "c0", "s1", "action00", ""} {
			if needs, dirty := Needs(c.g, s), Dirty(c.g, s, "a", "b", "x"); len(needs) != 0 || len(dirty) != 0 {
				t.Errorf("%d, %q: %q, %v of a build that can't be", i, s, needs, dirty)
			}
		}
	}
}

// P8.1: builds that can be.
func TestCanBe(t *testing.T) {
	checkAll(t, []checked{
		{api.Graph{}, 0},
		{api.Graph{Sources: []string{}, Actions: []api.Action{}}, 0},
		{build("a"), 0},
		{build("a b c d e f g h"), 0},
		{build("", act("x")), 0},
		{build("a", act("x", "a")), 0},
		{build("a", act("x", "a", "a", "a", "a")), 0},
		{build("a", act("x", "y"), act("y", "a")), 0},
		{build("a", act("x", "y", "y"), act("y", "a", "a")), 0},
		{build("", act("x", "y"), act("y", "z"), act("z")), 0},
		{build("a", act("x", "y", "z", "w"), act("y", "w", "z"), act("z", "w"), act("w")), 0},
		{build("by from", act("make", "by", "from"), act("source", "make")), 0},
		{build("aaaaaaa1", act("aaaaaaa2", "aaaaaaa1"), act("a", "aaaaaaa2")), 0},
		{build("", coded(64, act("x"))), 0},
		{chain(12), 0},
		{widest(), 0},
	})
}

// P8.1: builds that can't be written.
func TestNotWritten(t *testing.T) {
	long := strings.Repeat("a", 1<<16)
	list := []api.Graph{
		{Sources: []string{""}}, {Sources: []string{"a", "A"}}, {Sources: []string{"a b"}}, {Sources: []string{"abcdefghi"}}, {Sources: []string{long}}, {Sources: make([]string, 5000)},
		build("a b c d e f g h i"),
		build("a", act("")), build("a", act("X")), build("a", act("x", "a"), act("x-")), build("a", act("abcdefghi", "a")), build("a", act("x\n", "a")), build("a", act(long)),
		build("a", act("x", "")), build("a", act("x", "a", "A")), build("a", act("x", "a", "abcdefghi")), build("a", act("x", long)),
		build("a", act("x", "a", "a", "a", "a", "a")), build("a", act("x", make([]string, 5000)...)),
		build("a", coded(65, act("x", "a"))), build("a", coded(1<<16, act("x", "a"))),
		build("", make([]api.Action, 1)...), build("", make([]api.Action, 5000)...),
		chain(13), chain(1000),
	}
	more := widest()
	more.Actions = append(more.Actions, act("x"))
	source := widest()
	source.Sources = append(source.Sources, "a")
	code := widest()
	code.Actions[11].Code += "r"
	input := widest()
	input.Actions[11].Inputs = append(input.Actions[11].Inputs, "s0")
	for _, g := range append(list, more, source, code, input) {
		checkAll(t, []checked{{g, api.ErrArg}})
	}
}

// P8.1: two of one name, wherever they are.
func TestTwins(t *testing.T) {
	checkAll(t, []checked{
		{build("a a"), api.ErrTwice},
		{build("a b c a"), api.ErrTwice},
		{build("a b b"), api.ErrTwice},
		{build("a b c d e f g a"), api.ErrTwice},
		{build("", act("x"), act("x")), api.ErrTwice},
		{build("a", act("x", "a"), act("y", "x"), act("x", "y")), api.ErrTwice},
		{build("a", act("a")), api.ErrTwice},
		{build("a b", act("x", "a"), act("b", "x")), api.ErrTwice},
		{build("a", act("x", "a"), act("x", "a")), api.ErrTwice},
	})
	for i := range 20 {
		for j := range i {
			g := widest()
			name := func(n int) *string {
				if n < 8 {
					return &g.Sources[n]
				}
				return &g.Actions[n-8].Name
			}
			*name(i) = *name(j)
			checkAll(t, []checked{{g, api.ErrTwice}})
		}
	}
}

// P8.1: inputs that there aren't, wherever they are.
func TestMissing(t *testing.T) {
	checkAll(t, []checked{
		{build("", act("x", "a")), api.ErrMiss},
		{build("a", act("x", "b")), api.ErrMiss},
		{build("a", act("x", "a", "a", "a", "b")), api.ErrMiss},
		{build("a", act("x", "a"), act("y", "x", "w")), api.ErrMiss},
		{build("aa", act("x", "a")), api.ErrMiss},
		{build("a", act("x", "aa")), api.ErrMiss},
		{build("a", act("x", "y"), act("z", "a")), api.ErrMiss},
		{build("a", act("x", "00")), api.ErrMiss},
	})
	for i := range 12 {
		for j := range 4 {
			g := widest()
			g.Actions[i].Inputs[j] = "none"
			checkAll(t, []checked{{g, api.ErrMiss}})
		}
	}
}

// P8.1: actions that stand on themselves, over up to eleven others.
func TestRings(t *testing.T) {
	checkAll(t, []checked{
		{build("", act("x", "x")), api.ErrRing},
		{build("a", act("x", "a", "a", "a", "x")), api.ErrRing},
		{build("a", act("x", "y"), act("y", "x")), api.ErrRing},
		{build("a", act("x", "a", "y"), act("y", "a", "x")), api.ErrRing},
		{build("a", act("x", "a"), act("y", "x", "z"), act("z", "y")), api.ErrRing},
		{build("a", act("x", "y"), act("y", "z"), act("z", "w"), act("w", "y")), api.ErrRing},
		{build("a", act("x", "y"), act("y", "x"), act("z", "w"), act("w", "z")), api.ErrRing},
		{build("a", act("x", "a"), act("y", "x"), act("z", "z")), api.ErrRing},
	})
	for n := 1; n <= 12; n++ {
		for back := range n {
			g := chain(n)
			g.Actions[n-1].Inputs = []string{"s1", fmt.Sprint("c", back)}
			checkAll(t, []checked{{g, api.ErrRing}})
			slices.Reverse(g.Actions)
			checkAll(t, []checked{{g, api.ErrRing}})
		}
	}
}

// P8.1: where several errors apply, the one that the promise names first is told, wherever the faults stand.
func TestFirstError(t *testing.T) {
	faults := []struct {
		e api.Errno
		a []api.Action
	}{
		{api.ErrArg, []api.Action{act("A")}},
		{api.ErrTwice, []api.Action{act("x"), act("x")}},
		{api.ErrMiss, []api.Action{act("y", "none")}},
		{api.ErrRing, []api.Action{act("z", "w"), act("w", "z")}},
	}
	for bits := range 16 {
		want := api.OK
		g, back := build("a"), build("a")
		for i, f := range faults {
			if bits>>i&1 == 0 {
				continue
			}
			if want == 0 {
				want = f.e
			}
			g.Actions = append(g.Actions, f.a...)
			back.Actions = append(slices.Clone(f.a), back.Actions...)
		}
		checkAll(t, []checked{{g, want}, {back, want}})
	}
}

// P8.2: each time the lowest place that can be.
func TestOrder(t *testing.T) {
	for _, c := range []struct {
		g    api.Graph
		want string
	}{
		{api.Graph{}, "[]"},
		{build("a b"), "[]"},
		{build("", act("x")), "[0]"},
		{build("a", act("z", "a"), act("y", "a"), act("x", "a")), "[0 1 2]"},
		{build("a", act("x", "y"), act("y", "a")), "[1 0]"},
		{build("a", act("x", "y"), act("y", "a"), act("z")), "[1 0 2]"},
		{build("a", act("x", "z"), act("y", "a"), act("z")), "[1 2 0]"},
		{build("a", act("w", "x"), act("x", "z"), act("y", "a"), act("z")), "[2 3 1 0]"},
		{build("a", act("p", "q", "u"), act("q", "r"), act("r", "a"), act("s", "t"), act("t"), act("u", "t")), "[2 1 4 3 5 0]"},
		{build("a", act("p", "u"), act("q", "p"), act("r", "a"), act("s"), act("t", "q", "a"), act("u", "s")), "[2 3 5 0 1 4]"},
		{build("a", act("x", "y", "y", "y", "y"), act("y", "a", "a")), "[1 0]"},
		{chain(12), "[11 10 9 8 7 6 5 4 3 2 1 0]"},
		{widest(), "[11 10 9 8 7 6 5 4 3 2 1 0]"},
	} {
		if got := fmt.Sprint(Order(c.g)); got != c.want {
			t.Errorf("%v: %s, not %s", c.g, got, c.want)
		}
	}
}

// pair and deep are builds of the tables below.
func pair() api.Graph { return build("b a c", act("x", "a"), act("y", "x"), act("z", "b")) }

func deep() api.Graph {
	return build("s t", act("top", "mid", "low", "mid"), act("low", "s"), act("mid", "low", "t"), act("free"), act("b10", "b9"), act("b9", "b"), act("b", "s"))
}

// P8.3: what an action stands on.
func TestNeeds(t *testing.T) {
	for _, c := range []struct {
		g          api.Graph
		name, want string
	}{
		{pair(), "x", "[a]"},
		{pair(), "y", "[a x]"},
		{pair(), "z", "[b]"},
		{pair(), "a", "[]"},
		{pair(), "c", "[]"},
		{pair(), "none", "[]"},
		{pair(), "", "[]"},
		{pair(), "X", "[]"},
		{pair(), "x ", "[]"},
		{pair(), strings.Repeat("x", 1<<16), "[]"},
		{deep(), "top", "[low mid s t]"},
		{deep(), "mid", "[low s t]"},
		{deep(), "low", "[s]"},
		{deep(), "free", "[]"},
		{deep(), "b10", "[b b9 s]"},
		{deep(), "s", "[]"},
		{build("z 1 a 9 10", act("x", "z", "1", "a", "9"), act("y", "10", "x")), "y", "[1 10 9 a x z]"},
		{build("ab b aa", act("a", "b", "ab", "aa")), "a", "[aa ab b]"},
		{chain(12), "c0", "[c1 c10 c11 c2 c3 c4 c5 c6 c7 c8 c9 s1]"},
		{chain(12), "c11", "[s1]"},
		{widest(), "action11", "[s0 s1 s2 s3]"},
		{widest(), "action08", "[action09 action10 action11 s0 s1 s2 s3]"},
		{api.Graph{}, "a", "[]"},
		{api.Graph{}, "", "[]"},
	} {
		if got := fmt.Sprint(Needs(c.g, c.name)); got != c.want {
			t.Errorf("%v, %.20q: %s, not %s", c.g, c.name, got, c.want)
		}
	}
}

// P8.3: which actions are dirty.
func TestDirty(t *testing.T) {
	many := make([]string, 1<<16)
	many[1<<16-1] = "b"
	for _, c := range []struct {
		g     api.Graph
		names []string
		want  string
	}{
		{pair(), nil, "[]"},
		{pair(), []string{}, "[]"},
		{pair(), []string{"a"}, "[0 1]"},
		{pair(), []string{"b"}, "[2]"},
		{pair(), []string{"c"}, "[]"},
		{pair(), []string{"a", "b"}, "[0 1 2]"},
		{pair(), []string{"b", "a", "b", "b"}, "[0 1 2]"},
		{pair(), []string{"x"}, "[0 1]"},
		{pair(), []string{"y"}, "[1]"},
		{pair(), []string{"z", "y"}, "[1 2]"},
		{pair(), []string{"none"}, "[]"},
		{pair(), []string{"", "A", "a b", "abcdefghi", strings.Repeat("a", 1<<16)}, "[]"},
		{pair(), []string{"", "none", "y", "X"}, "[1]"},
		{pair(), many, "[2]"},
		{deep(), []string{"s"}, "[0 1 2 4 5 6]"},
		{deep(), []string{"t"}, "[0 2]"},
		{deep(), []string{"free", "t"}, "[0 2 3]"},
		{deep(), []string{"b9", "top"}, "[0 4 5]"},
		{chain(12), []string{"s1"}, "[0 1 2 3 4 5 6 7 8 9 10 11]"},
		{chain(12), []string{"c5"}, "[0 1 2 3 4 5]"},
		{widest(), []string{"s7"}, "[]"},
		{widest(), []string{"action11"}, "[0 1 2 3 4 5 6 7 8 9 10 11]"},
		{api.Graph{}, []string{"a", ""}, "[]"},
	} {
		if got := fmt.Sprint(Dirty(c.g, c.names...)); got != c.want {
			t.Errorf("%v, %.200q: %s, not %s", c.g, c.names, got, c.want)
		}
	}
}

// P8.1 to P8.3: which codes the actions have doesn't matter.
func TestCodes(t *testing.T) {
	g := deep()
	for i := range g.Actions {
		g.Actions[i].Code = "\x00\xff"[i%2:]
	}
	if Check(g) != 0 || !slices.Equal(Order(g), Order(deep())) || !slices.Equal(Dirty(g, "t"), Dirty(deep(), "t")) {
		t.Error(Check(g), Order(g), Dirty(g, "t"))
	}
}

// Rule 3: what is handed in stays as it is, its spare room too.
func TestHandedIn(t *testing.T) {
	sources := []string{"b", "a", "spare", "room"}
	inputs := []string{"y", "b", "a", "spare", "room"}
	actions := []api.Action{act("x", inputs[:3]...), act("y", inputs[1:2]...), act("spare", "none")}
	names := []string{"b", "a", "spare"}
	g := api.Graph{Sources: sources[:2], Actions: actions[:2]}
	if Check(g) != 0 || fmt.Sprint(Order(g), Needs(g, "x"), Dirty(g, names[:2]...)) != "[1 0] [a b y] [0 1]" {
		t.Error(Check(g), Order(g), Needs(g, "x"), Dirty(g, names[:2]...))
	}
	wantActions := []api.Action{act("x", "y", "b", "a"), act("y", "b"), act("spare", "none")}
	if !reflect.DeepEqual(actions, wantActions) || fmt.Sprint(sources, inputs, names) != "[b a spare room] [y b a spare room] [b a spare]" {
		t.Error(actions, sources, inputs, names)
	}
}

// Rules 3 and 4: an answer is new memory each time, and nothing is kept from call to call.
func TestNewMemory(t *testing.T) {
	g := deep()
	for range 3 {
		order, dirty, needs := Order(g), Dirty(g, "s"), Needs(g, "top")
		if fmt.Sprint(order, dirty, needs) != "[1 2 0 3 6 5 4] [0 1 2 4 5 6] [low mid s t]" {
			t.Fatal(order, dirty, needs)
		}
		for _, list := range [][]int{order[:cap(order)], dirty[:cap(dirty)]} {
			for i := range list {
				list[i] = 77
			}
		}
		for i := range needs[:cap(needs)] {
			needs[:cap(needs)][i] = "other"
		}
		Check(build("a", act("x", "x")))
		Order(widest())
		if !reflect.DeepEqual(g, deep()) {
			t.Fatal("the build was changed:", g)
		}
	}
}

// The chapter's example.
func TestExample(t *testing.T) {
	g := build("a b", act("x", "a"), act("y", "x"), act("z", "b"))
	if Check(g) != 0 || fmt.Sprint(Order(g)) != "[0 1 2]" || fmt.Sprint(Dirty(g, "a")) != "[0 1]" {
		t.Error(Check(g), Order(g), Dirty(g, "a"))
	}
}
