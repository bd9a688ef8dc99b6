package register

import (
	"slices"

	"boundstone/api"
	"boundstone/chainage"
	"boundstone/credit"
	"boundstone/custom"
	"boundstone/walk"
)

// growing is a register that grows with each entry, as known in a year.
type growing struct {
	api.Register
	known    int
	answered map[int]bool // claims that the other parish has answered, by their IDs
}

// Fold returns the register of entries, as known in a year.
func Fold(l []api.Entered, known int) (api.Register, api.Errno) {
	some, e := Effective(l, known)
	if e != api.OK {
		return api.Register{}, e
	}
	return fold(some, known), api.OK
}

// fold returns the register of entries that count in a year, in order; it keeps their memory.
func fold(l []api.Entered, known int) api.Register {
	g := &growing{known: known, answered: make(map[int]bool)}
	for _, kind := range []int{
		api.EnChain, api.EnRepair, api.EnProof, api.EnStone, api.EnSight, api.EnNote, api.EnBounds, api.EnWitness, api.EnWalk,
		api.EnField, api.EnPaid, api.EnCustom, api.EnClaim, api.EnAnswer, api.EnRuling,
	} {
		for _, x := range l {
			if x.Entry.Kind == kind {
				g.enter(x)
			}
		}
		if kind == api.EnAnswer {
			g.grant()
		}
	}
	return g.Register
}

// enter applies an entry, or refuses it.
func (g *growing) enter(x api.Entered) {
	if e := g.apply(x.Name, x.Entry); e != api.OK {
		g.Refused = append(g.Refused, api.Refused{Name: x.Name, Err: e})
	}
}

// apply applies an entry, unless there is an error.
func (g *growing) apply(name api.Name, entry api.Entry) api.Errno {
	id := numberOf(name)
	switch c := contentOf(entry).(type) {
	case chainMade:
		return g.addChain(api.Chain(c))
	case chainRepaired:
		c.ID = id
		return g.addRepair(api.Repair(c))
	case chainProved:
		c.ID = id
		return g.addProof(api.Proof(c))
	case stoneSet:
		c.sight.ID = id
		return g.addStone(api.Marked{Number: c.stone, Life: api.Life{Habit: c.habit, Sights: []api.Sight{c.sight}}})
	case stoneSeen:
		c.sight.ID = id
		return g.addSight(c.stone, c.sight)
	case stoneNoted:
		c.note.ID = id
		return g.addNote(c.stone, c.note)
	case boundsLaid:
		return g.layBounds(c.ring, c.changes)
	case witnessNamed:
		return g.addWitness(api.Witness(c))
	case walkTold:
		c.walk.ID = id
		return g.addWalk(c.by, c.walk)
	case fieldNamed:
		return g.addField(api.Field(c))
	case tithePaid:
		return g.addPaid(api.Paid(c))
	case customFound:
		return g.addCustom(id, api.Rule(c))
	case fieldClaimed:
		return g.addClaim(api.Claimed{ID: id, Vestry: name.Vestry, Claim: api.Claim(c)})
	case claimAnswered:
		return g.answer(name.Vestry, entry.Written, api.Name(c))
	case claimRuled:
		return g.rule(name.Vestry, c.claim, c.vestry)
	}
	return api.OK
}

// and returns a list with one more element, in new memory.
func and[T any](l []T, x T) []T { return append(slices.Clip(l), x) }

// settle makes a parish that of the register, unless it has an error.
func (g *growing) settle(p api.Parish) api.Errno {
	e := walk.Check(p)
	if e == api.OK {
		g.Parish = p
	}
	return e
}

// settleWorks is settle for other works, which must not contradict themselves either.
func (g *growing) settleWorks(w api.Works) api.Errno {
	p := g.Parish
	p.Works = w
	if e := walk.Check(p); e != api.OK {
		return e
	}
	if _, _, is, _ := chainage.Clash(w); is {
		return api.ErrClash
	}
	g.Parish = p
	return api.OK
}

func (g *growing) addChain(c api.Chain) api.Errno {
	p := g.Parish
	p.Works.Chains = and(p.Works.Chains, c)
	return g.settle(p)
}

func (g *growing) addRepair(r api.Repair) api.Errno {
	w := g.Parish.Works
	w.Repairs = and(w.Repairs, r)
	return g.settleWorks(w)
}

func (g *growing) addProof(p api.Proof) api.Errno {
	w := g.Parish.Works
	w.Proofs = and(w.Proofs, p)
	return g.settleWorks(w)
}

func (g *growing) addStone(m api.Marked) api.Errno {
	p := g.Parish
	p.Stones = and(p.Stones, m)
	return g.settle(p)
}

// settleLife is settle for another life of a stone; ErrNone if there is no such stone.
func (g *growing) settleLife(number int, other func(l api.Life) api.Life) api.Errno {
	i := slices.IndexFunc(g.Parish.Stones, func(m api.Marked) bool { return m.Number == number })
	if i < 0 {
		return api.ErrNone
	}
	p := g.Parish
	p.Stones = slices.Clone(p.Stones)
	p.Stones[i].Life = other(p.Stones[i].Life)
	return g.settle(p)
}

func (g *growing) addSight(number int, s api.Sight) api.Errno {
	return g.settleLife(number, func(l api.Life) api.Life {
		place := 0
		for place < len(l.Sights) && l.Sights[place].Year <= s.Year {
			place++
		}
		l.Sights = slices.Insert(slices.Clone(l.Sights), place, s)
		return l
	})
}

func (g *growing) addNote(number int, n api.Note) api.Errno {
	return g.settleLife(number, func(l api.Life) api.Life {
		l.Notes = and(l.Notes, n)
		return l
	})
}

func (g *growing) layBounds(ring []int, changes int) api.Errno {
	p := g.Parish
	p.Ring, p.Changes = ring, changes
	return g.settle(p)
}

func (g *growing) addWitness(w api.Witness) api.Errno {
	if _, e := credit.Worth(w); e != api.OK {
		return e
	}
	if hasWitness(g.Witnesses, w.ID) {
		return api.ErrTwice
	}
	if len(g.Witnesses) >= api.MaxWitnesses {
		return api.ErrLimit
	}
	g.Witnesses = append(g.Witnesses, w)
	return api.OK
}

func (g *growing) addWalk(by int, w api.Walk) api.Errno {
	if !hasWitness(g.Witnesses, by) {
		return api.ErrNone
	}
	p, e := walk.With(g.Parish, w)
	if e != api.OK {
		return e
	}
	g.Parish = p
	g.Told = append(g.Told, api.Told{Walk: w.ID, Witness: by})
	return api.OK
}

func (g *growing) addField(f api.Field) api.Errno {
	if e := checkField(g.Fields, f); e != api.OK {
		return e
	}
	if len(g.Fields) >= api.MaxFields {
		return api.ErrLimit
	}
	g.Fields = append(g.Fields, f)
	return api.OK
}

func (g *growing) addPaid(p api.Paid) api.Errno {
	if e := checkPaid(g.Fields, p); e != api.OK {
		return e
	}
	if len(g.Paid) >= api.MaxPaid {
		return api.ErrLimit
	}
	g.Paid = append(g.Paid, p)
	return api.OK
}

func (g *growing) addCustom(id int, r api.Rule) api.Errno {
	clauses, e, _ := custom.Parse(r.Source)
	if e != api.OK {
		return e
	}
	customs, e := custom.Add(g.Customs, api.Custom{ID: id, From: r.From, To: r.To, Clauses: clauses})
	if e != api.OK {
		return e
	}
	g.Customs = customs
	return api.OK
}
