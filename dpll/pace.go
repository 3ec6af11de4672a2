package dpll

import (
	"cmp"
	"slices"
)

// How many clashes a unit has; how many learned claims that may be forgotten there may be at first, and how many more each time that some were; and up to what spread they may not.
const (
	unitClashes = 128
	mostFirst   = 2000
	mostMore    = 500
	keptSpread  = 2
)

// A pace tells when to start over: after 1, 1, 2, 1, 1, 2, 4, 1, .. units of clashes, so that any search gets in the end as many as it needs.
type pace struct {
	clashes int // since the last start
	turn    int // how far that row went
	units   int // its number there
	learned int // claims that may be forgotten
	most    int // of them
}

// newPace is the pace of a search that begins.
func newPace() pace { return pace{turn: 1, units: 1, most: mostFirst} }

// clash counts one, from which a claim of that spread was learned.
func (p *pace) clash(spread int) {
	p.clashes++
	if spread > keptSpread {
		p.learned++
	}
}

// due tells whether to start over now; then the next number of the row counts.
func (p *pace) due() bool {
	if p.clashes < unitClashes*p.units {
		return false
	}
	p.clashes = 0
	if p.turn&-p.turn == p.units {
		p.turn, p.units = p.turn+1, 1
	} else {
		p.units *= 2
	}
	return true
}

// startOver takes back all decisions, and forgets half of what was learned where that is too much.
func (s *search) startOver() {
	s.takeBack(0)
	if s.pace.learned > s.pace.most {
		l := s.learned()
		s.forget(l[len(l)/2:])
		s.pace.learned, s.pace.most = len(l)/2, s.pace.most+mostMore
	}
}

// learned answers the places of all claims that may be forgotten, those first that hung on few decisions and have few literals.
func (s *search) learned() []int32 {
	var l []int32
	for k, c := range s.claims {
		if c.spread > keptSpread {
			l = append(l, int32(k))
		}
	}
	slices.SortStableFunc(l, func(k, m int32) int {
		c, d := s.claims[k], s.claims[m]
		return cmp.Or(cmp.Compare(c.spread, d.spread), cmp.Compare(len(c.literals), len(d.literals)))
	})
	return l
}

// forget lets out the claims at these places. No decision stands, so that nobody asks any more which claim settled what.
func (s *search) forget(l []int32) {
	for _, k := range l {
		s.claims[k].literals = nil
	}
	s.claims = slices.DeleteFunc(s.claims, func(c claim) bool { return c.literals == nil })
	for x := range s.watches {
		s.watches[x] = s.watches[x][:0]
	}
	for k := range s.claims {
		s.look(int32(k))
	}
}
