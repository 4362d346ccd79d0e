package scout

import (
	"slices"

	"apiary/api"
	"apiary/hum"
	"apiary/rank"
)

// tellings is how often a word that was learnt is told on.
const tellings = 5

// known is what a node knows of members, and what of it is still to be told on.
type known struct {
	*rank.View
	*hum.Hum
	now   int                   // the ticks so far
	since [api.MaxNodes + 1]int // by nodes, the tick in which the view took what is known
}

// newKnown: nodes from 1 to their number are alive. Nothing of it is told on: all begin with it.
func newKnown(nodes int) known {
	k := known{View: rank.New(), Hum: hum.New(tellings)}
	for node := 1; node <= nodes; node++ {
		k.Merge(api.Member{Node: node})
	}
	return k
}

// learn: words come now; what the view takes is told on.
func (k *known) learn(list ...api.Member) {
	taken := k.Merge(list...)
	k.Push(taken...)
	for _, m := range taken {
		k.since[m.Node] = k.now
	}
}

// turn: a node is held for so, in the word that is known of it.
func (k *known) turn(node, state int) {
	m := k.of(node)
	m.State = state
	k.learn(m)
}

// of: what is known of a node from 1 to their number, of each of which something is.
func (k *known) of(node int) api.Member {
	m, _ := k.Get(node)
	return m
}

// remind: what is known of a node is told on anew, so that it hears of it and can speak up.
func (k *known) remind(node int) { k.Push(k.of(node)) }

// isPresent: whether a node is alive or doubted. isAbsent: whether it is neither.
func (k *known) isPresent(node int) bool { return slices.Contains(k.Present(), node) }

func (k *known) isAbsent(m api.Member) bool { return !k.isPresent(m.Node) }

// isOverdue: whether a node has been doubted for so long that it is held for gone.
func (k *known) isOverdue(m api.Member) bool {
	return m.State == api.Doubted && k.now-k.since[m.Node] >= api.Doubt
}

// those: the nodes of which a word is known for which something holds, rising.
func (k *known) those(holds func(m api.Member) bool) []int {
	var nodes []int
	for _, m := range k.All() {
		if holds(m) {
			nodes = append(nodes, m.Node)
		}
	}
	return nodes
}
