package register_test

import (
	"slices"

	"boundstone/api"
	"boundstone/chainage"
	"boundstone/credit"
	"boundstone/custom"
	"boundstone/plane"
	"boundstone/walk"
)

// This file reads the chapter's steps word by word.

// slowly is a register that is found step by step.
type slowly struct {
	r        api.Register
	known    int
	answered []int
}

// slowFold returns the register of entries in a year.
func slowFold(l []api.Entered, known int) api.Register {
	s := &slowly{known: known}
	some := slowEffective(l, known)
	each := func(kind int, do func(id int, x api.Entered) api.Errno) {
		for _, x := range some {
			if x.Entry.Kind != kind {
				continue
			}
			if e := do(1000*x.Name.Vestry+x.Name.Line, x); e != api.OK {
				s.r.Refused = append(s.r.Refused, api.Refused{Name: x.Name, Err: e})
			}
		}
	}
	each(api.EnChain, s.chain)
	each(api.EnRepair, s.repair)
	each(api.EnProof, s.proof)
	each(api.EnStone, s.stone)
	each(api.EnSight, s.sight)
	each(api.EnNote, s.note)
	each(api.EnBounds, s.bounds)
	each(api.EnWitness, s.witness)
	each(api.EnWalk, s.walk)
	each(api.EnField, s.field)
	each(api.EnPaid, s.paid)
	each(api.EnCustom, s.custom)
	each(api.EnClaim, s.claim)
	each(api.EnAnswer, s.answer)
	for i, c := range s.r.Claims {
		if !slices.Contains(s.answered, c.ID) && c.Claim.Until < known {
			s.r.Claims[i].Holder = c.Vestry
		}
	}
	each(api.EnRuling, s.ruling)
	return s.r
}

// parish takes another parish if it has no error.
func (s *slowly) parish(change func(p *api.Parish)) api.Errno {
	p := plain(s.r.Parish)
	change(&p)
	e := walk.Check(p)
	if e == api.OK {
		s.r.Parish = p
	}
	return e
}

func (s *slowly) chain(_ int, x api.Entered) api.Errno {
	return s.parish(func(p *api.Parish) { p.Works.Chains = append(p.Works.Chains, x.Entry.Chain) })
}

// works takes other works if they have no error and do not contradict themselves.
func (s *slowly) works(change func(p *api.Parish)) api.Errno {
	before := s.r.Parish
	if e := s.parish(change); e != api.OK {
		return e
	}
	if l, e := chainage.Clashes(s.r.Parish.Works); e != api.OK || len(l) > 0 {
		s.r.Parish = before
		return api.ErrClash
	}
	return api.OK
}

func (s *slowly) repair(id int, x api.Entered) api.Errno {
	x.Entry.Repair.ID = id
	return s.works(func(p *api.Parish) { p.Works.Repairs = append(p.Works.Repairs, x.Entry.Repair) })
}

func (s *slowly) proof(id int, x api.Entered) api.Errno {
	x.Entry.Proof.ID = id
	return s.works(func(p *api.Parish) { p.Works.Proofs = append(p.Works.Proofs, x.Entry.Proof) })
}

func (s *slowly) stone(id int, x api.Entered) api.Errno {
	x.Entry.Sight.ID = id
	return s.parish(func(p *api.Parish) {
		p.Stones = append(p.Stones, api.Marked{Number: x.Entry.Stone, Life: api.Life{Habit: x.Entry.Habit, Sights: []api.Sight{x.Entry.Sight}}})
	})
}

// life takes another life of a stone.
func (s *slowly) life(number int, change func(l *api.Life)) api.Errno {
	for i, m := range s.r.Parish.Stones {
		if m.Number == number {
			return s.parish(func(p *api.Parish) { change(&p.Stones[i].Life) })
		}
	}
	return api.ErrNone
}

func (s *slowly) sight(id int, x api.Entered) api.Errno {
	x.Entry.Sight.ID = id
	return s.life(x.Entry.Stone, func(l *api.Life) {
		var earlier, later []api.Sight
		for _, other := range l.Sights {
			if other.Year <= x.Entry.Sight.Year {
				earlier = append(earlier, other)
			} else {
				later = append(later, other)
			}
		}
		l.Sights = append(append(earlier, x.Entry.Sight), later...)
	})
}

func (s *slowly) note(id int, x api.Entered) api.Errno {
	x.Entry.Note.ID = id
	return s.life(x.Entry.Stone, func(l *api.Life) { l.Notes = append(l.Notes, x.Entry.Note) })
}

func (s *slowly) bounds(_ int, x api.Entered) api.Errno {
	return s.parish(func(p *api.Parish) { p.Ring, p.Changes = x.Entry.Ring, x.Entry.Changes })
}

func (s *slowly) hasWitness(id int) bool {
	return slices.ContainsFunc(s.r.Witnesses, func(w api.Witness) bool { return w.ID == id })
}

func (s *slowly) witness(_ int, x api.Entered) api.Errno {
	if _, e := credit.Worth(x.Entry.Witness); e != api.OK {
		return e
	}
	if s.hasWitness(x.Entry.Witness.ID) {
		return api.ErrTwice
	}
	if len(s.r.Witnesses) == 12 {
		return api.ErrLimit
	}
	s.r.Witnesses = append(s.r.Witnesses, x.Entry.Witness)
	return api.OK
}

func (s *slowly) walk(id int, x api.Entered) api.Errno {
	if !s.hasWitness(x.Entry.By) {
		return api.ErrNone
	}
	x.Entry.Walk.ID = id
	p, e := walk.With(s.r.Parish, x.Entry.Walk)
	if e != api.OK {
		return e
	}
	s.r.Parish = p
	s.r.Told = append(s.r.Told, api.Told{Walk: id, Witness: x.Entry.By})
	return api.OK
}

func slowField(l []api.Field, number int) bool {
	return slices.ContainsFunc(l, func(f api.Field) bool { return f.Number == number })
}

func (s *slowly) field(_ int, x api.Entered) api.Errno {
	f := x.Entry.Field
	if f.Number < 1 || f.Number > 1000 || !plane.Valid(f.At) || f.Pence < 0 || f.Pence > pence {
		return api.ErrArg
	}
	if slowField(s.r.Fields, f.Number) {
		return api.ErrTwice
	}
	if len(s.r.Fields) == 8 {
		return api.ErrLimit
	}
	s.r.Fields = append(s.r.Fields, f)
	return api.OK
}

func (s *slowly) paid(_ int, x api.Entered) api.Errno {
	p := x.Entry.Paid
	if !slowField(s.r.Fields, p.Field) {
		return api.ErrNone
	}
	if p.Year < 0 || p.Year > lastYear || p.Vestry != 1 && p.Vestry != 2 || p.Pence < 1 || p.Pence > pence {
		return api.ErrArg
	}
	if len(s.r.Paid) == 60 {
		return api.ErrLimit
	}
	s.r.Paid = append(s.r.Paid, p)
	return api.OK
}

func (s *slowly) custom(id int, x api.Entered) api.Errno {
	l, e, _ := custom.Parse(x.Entry.Rule.Source)
	if e != api.OK {
		return e
	}
	more, e := custom.Add(s.r.Customs, api.Custom{ID: id, From: x.Entry.Rule.From, To: x.Entry.Rule.To, Clauses: l})
	if e == api.OK {
		s.r.Customs = more
	}
	return e
}

func (s *slowly) claim(id int, x api.Entered) api.Errno {
	c := x.Entry.Claim
	if x.Name.Vestry == 0 || c.Year < 0 || c.Year > lastYear || c.Until < 0 || c.Until > lastYear {
		return api.ErrArg
	}
	if !slowField(s.r.Fields, c.Field) {
		return api.ErrNone
	}
	if len(s.r.Claims) == 12 {
		return api.ErrLimit
	}
	s.r.Claims = append(s.r.Claims, api.Claimed{ID: id, Vestry: x.Name.Vestry, Claim: c})
	return api.OK
}

// target returns the index of the claim that was entered as a target says; -1 if there is none.
func (s *slowly) target(n api.Name) int {
	return slices.IndexFunc(s.r.Claims, func(c api.Claimed) bool { return c.Vestry == n.Vestry && c.ID-1000*c.Vestry == n.Line })
}

func (s *slowly) answer(_ int, x api.Entered) api.Errno {
	i := s.target(x.Entry.Target)
	if i < 0 {
		return api.ErrNone
	}
	if c := s.r.Claims[i]; x.Name.Vestry != 3-c.Vestry || x.Entry.Written > c.Claim.Until {
		return api.ErrState
	}
	s.answered = append(s.answered, s.r.Claims[i].ID)
	return api.OK
}

func (s *slowly) ruling(_ int, x api.Entered) api.Errno {
	if x.Name.Vestry != 0 || x.Entry.Vestry != 1 && x.Entry.Vestry != 2 {
		return api.ErrArg
	}
	i := s.target(x.Entry.Target)
	if i < 0 {
		return api.ErrNone
	}
	s.r.Claims[i].Holder = x.Entry.Vestry
	return api.OK
}
