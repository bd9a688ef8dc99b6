package register

import "boundstone/api"

// content is what an entry says: the fields that its kind has.
type content interface {
	// fill sets these fields of an entry.
	fill(e *api.Entry)
	// lay lays the words that stand behind the name of the kind.
	lay(w *writer)
}

// The contents of all kinds of entries, in the order of the kinds.
type (
	chainMade     api.Chain
	chainProved   api.Proof
	chainRepaired api.Repair
	stoneSet      struct {
		stone int
		habit api.Habit
		sight api.Sight
	}
	stoneSeen struct {
		stone int
		sight api.Sight
	}
	stoneNoted struct {
		stone int
		note  api.Note
	}
	boundsLaid struct {
		ring    []int
		changes int
	}
	witnessNamed api.Witness
	walkTold     struct {
		by   int
		walk api.Walk
	}
	fieldNamed    api.Field
	tithePaid     api.Paid
	customFound   api.Rule
	fieldClaimed  api.Claim
	claimAnswered api.Name
	claimRuled    struct {
		claim  api.Name
		vestry int
	}
	takenBack int
)

// contentOf returns what an entry says, by its kind; nil if the kind is none.
func contentOf(e api.Entry) content {
	switch e.Kind {
	case api.EnChain:
		return chainMade(e.Chain)
	case api.EnProof:
		return chainProved(e.Proof)
	case api.EnRepair:
		return chainRepaired(e.Repair)
	case api.EnStone:
		return stoneSet{e.Stone, e.Habit, e.Sight}
	case api.EnSight:
		return stoneSeen{e.Stone, e.Sight}
	case api.EnNote:
		return stoneNoted{e.Stone, e.Note}
	case api.EnBounds:
		return boundsLaid{e.Ring, e.Changes}
	case api.EnWitness:
		return witnessNamed(e.Witness)
	case api.EnWalk:
		return walkTold{e.By, e.Walk}
	case api.EnField:
		return fieldNamed(e.Field)
	case api.EnPaid:
		return tithePaid(e.Paid)
	case api.EnCustom:
		return customFound(e.Rule)
	case api.EnClaim:
		return fieldClaimed(e.Claim)
	case api.EnAnswer:
		return claimAnswered(e.Target)
	case api.EnRuling:
		return claimRuled{e.Target, e.Vestry}
	case api.EnBack:
		return takenBack(e.Target.Line)
	}
	return nil
}

func (c chainMade) fill(e *api.Entry)     { e.Chain = api.Chain(c) }
func (c chainProved) fill(e *api.Entry)   { e.Proof = api.Proof(c) }
func (c chainRepaired) fill(e *api.Entry) { e.Repair = api.Repair(c) }
func (c stoneSet) fill(e *api.Entry)      { e.Stone, e.Habit, e.Sight = c.stone, c.habit, c.sight }
func (c stoneSeen) fill(e *api.Entry)     { e.Stone, e.Sight = c.stone, c.sight }
func (c stoneNoted) fill(e *api.Entry)    { e.Stone, e.Note = c.stone, c.note }
func (c boundsLaid) fill(e *api.Entry)    { e.Ring, e.Changes = c.ring, c.changes }
func (c witnessNamed) fill(e *api.Entry)  { e.Witness = api.Witness(c) }
func (c walkTold) fill(e *api.Entry)      { e.By, e.Walk = c.by, c.walk }
func (c fieldNamed) fill(e *api.Entry)    { e.Field = api.Field(c) }
func (c tithePaid) fill(e *api.Entry)     { e.Paid = api.Paid(c) }
func (c customFound) fill(e *api.Entry)   { e.Rule = api.Rule(c) }
func (c fieldClaimed) fill(e *api.Entry)  { e.Claim = api.Claim(c) }
func (c claimAnswered) fill(e *api.Entry) { e.Target = api.Name(c) }
func (c claimRuled) fill(e *api.Entry)    { e.Target, e.Vestry = c.claim, c.vestry }
func (c takenBack) fill(e *api.Entry)     { e.Target.Line = int(c) }
