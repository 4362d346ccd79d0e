package haze

import "apiary/api"

// latest is the greatest time at which a summary can come. Its type holds it also where an int has 32 bits.
const latest int64 = 1 << 40

// sight is a node's summary, and when it came.
type sight struct {
	api.Haze
	came int
}

// Sky is the summaries of nodes, and when they came.
type Sky struct {
	sights [api.MaxNodes + 1]*sight // by nodes, from 1 on; nil: it has none
}

// New: none. Put: a node's summary came at a time. May: the nodes, rising, whose summaries, not too old at a time, may have a key. Drop: a node's is forgotten.
func New() *Sky { return &Sky{} }

func (s *Sky) Put(node int, h api.Haze, now int) {
	if s != nil && isNode(node) && isTime(now) {
		s.sights[node] = &sight{Haze: h, came: now}
	}
}

// isNode: whether a number is one that a node can have.
func isNode(n int) bool { return 1 <= n && n <= api.MaxNodes }

// isTime: whether a summary can come at a time.
func isTime(now int) bool { return now >= 0 && int64(now) <= latest }

func (s *Sky) May(key api.Digest, now int) []int {
	if s == nil {
		return nil
	}
	var nodes []int
	for node, g := range s.sights {
		if g != nil && g.isFresh(now) && Has(g.Haze, key) {
			nodes = append(nodes, node)
		}
	}
	return nodes
}

// isFresh: whether a summary is believed at a time, which may be any number. Since none came below 0,
// the difference is taken only where both are at least 0, and so can't go round.
func (g *sight) isFresh(now int) bool {
	return g.came <= now && now-g.came <= api.Fresh
}

func (s *Sky) Drop(node int) {
	if s != nil && isNode(node) {
		s.sights[node] = nil
	}
}
