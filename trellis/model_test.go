package trellis

import (
	"fmt"
	"math/rand"
	"regexp"
	"slices"
	"sort"
	"testing"

	"apiary/api"
)

var nameForm = regexp.MustCompile(`^[a-z0-9]{1,8}$`)

// modelWritten is whether a build can be written.
func modelWritten(g api.Graph) bool {
	names := slices.Clone(g.Sources)
	for _, a := range g.Actions {
		if len(a.Inputs) > 4 || len(a.Code) > 64 {
			return false
		}
		names = append(append(names, a.Name), a.Inputs...)
	}
	for _, s := range names {
		if !nameForm.MatchString(s) {
			return false
		}
	}
	return len(g.Sources) <= 8 && len(g.Actions) <= 12
}

// modelReach is all that stands below a name, found by going down from it, whatever the build is like.
func modelReach(g api.Graph, name string) map[string]bool {
	seen := map[string]bool{}
	todo := []string{name}
	for len(todo) > 0 {
		from := todo[0]
		todo = todo[1:]
		for _, a := range g.Actions {
			for _, in := range a.Inputs {
				if a.Name == from && !seen[in] {
					seen[in] = true
					todo = append(todo, in)
				}
			}
		}
	}
	return seen
}

// modelCheck is Check.
func modelCheck(g api.Graph) api.Errno {
	if !modelWritten(g) {
		return api.ErrArg
	}
	times := map[string]int{}
	for _, s := range g.Sources {
		times[s]++
	}
	for _, a := range g.Actions {
		times[a.Name]++
	}
	for _, n := range times {
		if n > 1 {
			return api.ErrTwice
		}
	}
	for _, a := range g.Actions {
		for _, in := range a.Inputs {
			if times[in] == 0 {
				return api.ErrMiss
			}
		}
	}
	for _, a := range g.Actions {
		if modelReach(g, a.Name)[a.Name] {
			return api.ErrRing
		}
	}
	return 0
}

// modelOrder is the first one, place by place, of all rows of the places in which each action stands behind those below it. It is Order of a build that can be.
func modelOrder(g api.Graph) []int {
	row := []int{}
	var try func() bool
	try = func() bool {
		if len(row) == len(g.Actions) {
			return true
		}
		for place, a := range g.Actions {
			below := modelReach(g, a.Name)
			fits := !slices.Contains(row, place)
			for other, b := range g.Actions {
				fits = fits && (!below[b.Name] || slices.Contains(row, other))
			}
			if !fits {
				continue
			}
			row = append(row, place)
			if try() {
				return true
			}
			row = row[:len(row)-1]
		}
		return false
	}
	try()
	return row
}

// modelNeeds is Needs of a build that can be.
func modelNeeds(g api.Graph, name string) []string {
	list := []string{}
	for s := range modelReach(g, name) {
		list = append(list, s)
	}
	sort.Strings(list)
	return list
}

// modelDirty is Dirty of a build that can be, found by going up from the names until nothing more comes.
func modelDirty(g api.Graph, names ...string) []int {
	dirty := slices.Clone(names)
	for grown := true; grown; {
		grown = false
		for _, a := range g.Actions {
			if !slices.Contains(dirty, a.Name) && slices.ContainsFunc(a.Inputs, func(s string) bool { return slices.Contains(dirty, s) }) {
				dirty = append(dirty, a.Name)
				grown = true
			}
		}
	}
	list := []int{}
	for place, a := range g.Actions {
		if slices.Contains(dirty, a.Name) {
			list = append(list, place)
		}
	}
	return list
}

// checkBuild fails unless all calls answer of a build what the models do, Needs and Dirty of each of the names, and Dirty of all of them.
func checkBuild(t *testing.T, g api.Graph, names ...string) api.Errno {
	t.Helper()
	e := Check(g)
	if want := modelCheck(g); e != want {
		t.Fatalf("%v: %d, not %d", g, e, want)
	}
	order, all := Order(g), Dirty(g, names...)
	if e != 0 {
		if len(order) > 0 || len(all) > 0 {
			t.Fatalf("%v, which can't be: %v, %v", g, order, all)
		}
		for _, s := range names {
			if len(Needs(g, s)) > 0 || len(Dirty(g, s)) > 0 {
				t.Fatalf("%v, which can't be: %v, %v of %q", g, Needs(g, s), Dirty(g, s), s)
			}
		}
		return e
	}
	if want := modelOrder(g); !slices.Equal(order, want) {
		t.Fatalf("%v: %v, not %v", g, order, want)
	}
	if want := modelDirty(g, names...); !slices.Equal(all, want) {
		t.Fatalf("%v, %q: %v, not %v", g, names, all, want)
	}
	for _, s := range names {
		if got, want := Needs(g, s), modelNeeds(g, s); !slices.Equal(got, want) {
			t.Fatalf("%v, %q: %q, not %q", g, s, got, want)
		}
		if got, want := Dirty(g, s), modelDirty(g, s); !slices.Equal(got, want) {
			t.Fatalf("%v, %q: %v, not %v", g, s, got, want)
		}
	}
	checkTogether(t, g, names...)
	return 0
}

// checkTogether fails unless P8.4 holds of a build that can be.
func checkTogether(t *testing.T, g api.Graph, names ...string) {
	t.Helper()
	order, dirty := Order(g), Dirty(g, names...)
	if len(order) != len(g.Actions) {
		t.Fatalf("%v: the order is %v", g, order)
	}
	for place, a := range g.Actions {
		needs := Needs(g, a.Name)
		for other, b := range g.Actions {
			if slices.Contains(needs, b.Name) && slices.Index(order, other) >= slices.Index(order, place) {
				t.Fatalf("%v: %s stands on %s, the order is %v", g, a.Name, b.Name, order)
			}
		}
		want := slices.Contains(names, a.Name) || slices.ContainsFunc(needs, func(s string) bool { return slices.Contains(names, s) })
		if slices.Contains(dirty, place) != want {
			t.Fatalf("%v, %q: dirty are %v", g, names, dirty)
		}
	}
}

// some is those of a list's elements whose bits are set.
func some(list []string, bits int) []string {
	var picked []string
	for i, s := range list {
		if bits>>i&1 == 1 {
			picked = append(picked, s)
		}
	}
	return picked
}

// P8.1 to P8.4: all builds of three actions, each with any of a source, the three, and one that there isn't.
func TestAllOfThree(t *testing.T) {
	names := []string{"s", "z", "y", "x", "none"}
	seen := map[api.Errno]int{}
	for bits := range 1 << 15 {
		g := build("s", act("z", some(names, bits&31)...), act("y", some(names, bits>>5&31)...), act("x", some(names, bits>>10)...))
		seen[checkBuild(t, g, some(names, bits*7&31)...)]++
	}
	// Of three actions, 25 ways to stand on one another have no ring; each with and without the source.
	if seen[0] != 25*8 || seen[api.ErrRing] != (512-25)*8 || seen[api.ErrArg] == 0 || seen[api.ErrMiss] == 0 {
		t.Error(seen)
	}
}

// P8.1 to P8.4: all ways in which four actions can stand on one another.
func TestAllOfFour(t *testing.T) {
	names := []string{"b", "d", "a", "c"}
	good := 0
	for bits := range 1 << 16 {
		g := api.Graph{}
		for i, s := range names {
			g.Actions = append(g.Actions, act(s, some(names, bits>>(4*i)&15)...))
		}
		if checkBuild(t, g, some(names, bits%15)...) == 0 {
			good++
		}
	}
	if good != 543 {
		t.Errorf("%d builds of four actions can be", good)
	}
}

// P8.1: all builds of two sources and two actions with names of some, twins among them.
func TestAllNames(t *testing.T) {
	names := []string{"a", "b", "c", "d", "A"}
	seen := map[api.Errno]int{}
	for n := range 5 * 5 * 5 * 5 * 25 {
		pick := func() string {
			s := names[n%5]
			n /= 5
			return s
		}
		g := api.Graph{Sources: []string{pick(), pick()}, Actions: []api.Action{act(pick(), pick()), act(pick(), pick())}}
		seen[checkBuild(t, g, names...)]++
	}
	for _, e := range []api.Errno{0, api.ErrArg, api.ErrTwice, api.ErrRing} {
		if seen[e] == 0 {
			t.Errorf("the answer %d never came", e)
		}
	}
}

// anyBuild is a build whose actions stand on sources and actions above them in a hidden row, mostly; its names come in no order.
func anyBuild(r *rand.Rand) api.Graph {
	g := api.Graph{}
	names := []string{}
	for _, i := range r.Perm(100)[:20] {
		names = append(names, fmt.Sprint("n", i))
	}
	g.Sources = slices.Clone(names[:r.Intn(9)])
	known := slices.Clone(g.Sources)
	for _, s := range names[8 : 8+r.Intn(13)] {
		a := act(s)
		for range r.Intn(5) {
			if len(known) > 0 {
				a.Inputs = append(a.Inputs, known[r.Intn(len(known))])
			}
		}
		g.Actions = append(g.Actions, a)
		known = append(known, s)
	}
	r.Shuffle(len(g.Actions), func(i, j int) { g.Actions[i], g.Actions[j] = g.Actions[j], g.Actions[i] })
	return g
}

// spoil is something wrong, perhaps, in a build.
func spoil(r *rand.Rand, g *api.Graph) {
	if len(g.Actions) == 0 {
		return
	}
	a, b := &g.Actions[r.Intn(len(g.Actions))], g.Actions[r.Intn(len(g.Actions))]
	switch r.Intn(8) {
	case 0:
		a.Name = b.Name
	case 1:
		a.Inputs = append(a.Inputs, "none")
	case 2, 3:
		a.Inputs = append(a.Inputs, b.Name)
	case 4:
		g.Sources = append(g.Sources, b.Name)
	case 5:
		a.Code = string(make([]byte, 60+r.Intn(10)))
	}
}

// P8.1 to P8.4: builds at random, up to the widest.
func TestBuilds(t *testing.T) {
	r := rand.New(rand.NewSource(8))
	seen := map[api.Errno]int{}
	for range 2000 {
		g := anyBuild(r)
		spoil(r, &g)
		names := []string{"none", ""}
		for i := range 30 {
			names = append(names, fmt.Sprint("n", r.Intn(70)+i))
		}
		seen[checkBuild(t, g, names[:r.Intn(len(names))]...)]++
		for _, a := range g.Actions {
			checkBuild(t, g, a.Name)
		}
	}
	for _, e := range []api.Errno{0, api.ErrArg, api.ErrTwice, api.ErrMiss, api.ErrRing} {
		if seen[e] < 50 {
			t.Errorf("the answer %d came %d times", e, seen[e])
		}
	}
}

func FuzzCalls(f *testing.F) {
	f.Add("a", "x", "a", "y", "x", "a")
	f.Add("a", "x", "y", "y", "x", "b")
	f.Add("a", "a", "zz", "A", "x", "")
	f.Fuzz(func(t *testing.T, source, one, below, two, under, name string) {
		g := api.Graph{Sources: []string{source}, Actions: []api.Action{act(one, below, under), act(two, under, source), act("w", one, two)}}
		checkBuild(t, g, name, source)
		checkBuild(t, g, one, two, below)
	})
}
