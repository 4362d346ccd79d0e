package scout

import (
	"slices"

	"apiary/api"
)

// probe is what a round asks: whether a node is there. The zero value asks nobody.
type probe struct {
	node     int
	seq      int
	helpers  []int // who was asked to ask it, too
	answered bool
}

// isOpen: whether somebody was asked and hasn't answered.
func (p *probe) isOpen() bool { return p.node != 0 && !p.answered }

// hear: an answer comes. It counts only from those who were asked, so that nobody else can answer for a node.
func (p *probe) hear(f api.Frame) {
	wasAsked := f.From == p.node || slices.Contains(p.helpers, f.From)
	if f.Seq == p.seq && f.Node == p.node && wasAsked {
		p.answered = true
	}
}

// errand is a ping that another node asked for.
type errand struct {
	seq    int // of the ping
	node   int // who got it
	asker  int
	asked  int // the Seq of who asked
	closed bool
}

// maxErrands is how many pings that were asked for are kept in mind, answered or not.
const maxErrands = 16

// errands are the last pings that were asked for, the eldest first.
type errands []errand

// add: one more; the eldest is forgotten if there are too many.
func (l *errands) add(e errand) {
	*l = append(*l, e)
	if len(*l) > maxErrands {
		*l = slices.Delete(*l, 0, 1)
	}
}

// close: the errand that an answer ends, once; false if there is none.
func (l errands) close(f api.Frame) (errand, bool) {
	for i, e := range l {
		if e.seq == f.Seq && e.node == f.From && !e.closed {
			l[i].closed = true
			return e, true
		}
	}
	return errand{}, false
}
