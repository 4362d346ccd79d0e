package trellis

import (
	"slices"

	"apiary/api"
	"apiary/recipe"
)

// set is some of a build's names, by their numbers. Its bits are enough, since a build that can be written has no more than MaxSources and MaxActions of them.
type set uint32

func (s set) has(number int) bool { return s>>number&1 == 1 }

func (s set) meets(other set) bool { return s&other != 0 }

func (s set) isWithin(other set) bool { return s&^other == 0 }

// known is a build with what is known of it. The zero value is what is known of one that can't be, so that nothing of it is told.
type known struct {
	api.Graph
	names []string            // the sources', then the actions': a name's number is its place here
	there set                 // the sources, and the actions that are in the order
	order []int               // the places of the actions that are there
	needs [api.MaxActions]set // by the places of actions that are there: on what each stands, over whatever others
}

// study: what is known of a build; ErrArg, ErrTwice, ErrMiss, ErrRing.
func study(g api.Graph) (known, api.Errno) {
	if _, e := recipe.Print(g); e != api.OK {
		return known{}, e
	}
	k := known{Graph: g, names: allNames(g)}
	if k.hasTwins() {
		return known{}, api.ErrTwice
	}
	if slices.ContainsFunc(g.Actions, k.misses) {
		return known{}, api.ErrMiss
	}
	if !k.arrange() {
		return known{}, api.ErrRing
	}
	return k, api.OK
}

func allNames(g api.Graph) []string {
	names := slices.Clone(g.Sources)
	for _, a := range g.Actions {
		names = append(names, a.Name)
	}
	return names
}

func (k *known) hasTwins() bool {
	for number, name := range k.names {
		if slices.Index(k.names, name) != number {
			return true
		}
	}
	return false
}

// misses: whether an action has an input that there isn't.
func (k *known) misses(a api.Action) bool {
	return slices.ContainsFunc(a.Inputs, func(name string) bool { return !slices.Contains(k.names, name) })
}

// arrange: all actions come to the order; false if some wait for one another.
func (k *known) arrange() bool {
	k.there = k.setOf(k.Sources...)
	for range k.Actions {
		place := slices.IndexFunc(k.Actions, k.isReady)
		if place < 0 {
			return false
		}
		k.take(place)
	}
	return true
}

// isReady: whether an action can be the next one of the order.
func (k *known) isReady(a api.Action) bool {
	return !k.setOf(a.Name).meets(k.there) && k.setOf(a.Inputs...).isWithin(k.there)
}

// take: the action of a place is the next one of the order. What its inputs stand on is known, since they are there.
func (k *known) take(place int) {
	inputs := k.setOf(k.Actions[place].Inputs...)
	needs := inputs
	for _, other := range k.order {
		if inputs.has(k.number(other)) {
			needs |= k.needs[other]
		}
	}
	k.needs[place] = needs
	k.there |= 1 << k.number(place)
	k.order = append(k.order, place)
}

// number: the number of the name of a place's action.
func (k *known) number(place int) int { return len(k.Sources) + place }

// setOf: those of some names that the build has.
func (k *known) setOf(names ...string) set {
	var s set
	for _, name := range names {
		if number := slices.Index(k.names, name); number >= 0 {
			s |= 1 << number
		}
	}
	return s
}

// namesIn: the names of a set.
func (k *known) namesIn(s set) []string {
	var names []string
	for number, name := range k.names {
		if s.has(number) {
			names = append(names, name)
		}
	}
	return names
}

// places: those of the actions, rising, of which something holds.
func (k *known) places(holds func(place int) bool) []int {
	var places []int
	for place := range k.Actions {
		if holds(place) {
			places = append(places, place)
		}
	}
	return places
}
