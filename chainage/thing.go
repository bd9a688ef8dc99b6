package chainage

import "boundstone/api"

// thing tells how long a chain was in a year.
type thing interface {
	year() int
	long() api.Span
}

type making api.Chain

func (m making) year() int      { return m.Year }
func (m making) long() api.Span { return m.Made }

type proof api.Proof

func (p *proof) year() int      { return p.Year }
func (p *proof) long() api.Span { return p.Long }

type repair api.Repair

func (r *repair) year() int      { return r.Year }
func (r *repair) long() api.Span { return r.Made }

func yearOf(t thing) int { return t.year() }

// number returns the number that names a thing of a chain.
func number(t thing) int {
	switch x := t.(type) {
	case *proof:
		return x.ID
	case *repair:
		return x.ID
	}
	return 0
}
