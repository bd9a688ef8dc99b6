package register

import (
	"slices"

	"boundstone/api"
	"boundstone/sheet"
)

// kindNames returns the names of the kinds of entries.
func kindNames() [api.EnBack + 1]string {
	return [...]string{
		api.EnChain:   "chain",
		api.EnProof:   "proof",
		api.EnRepair:  "repair",
		api.EnStone:   "stone",
		api.EnSight:   "sight",
		api.EnNote:    "note",
		api.EnBounds:  "bounds",
		api.EnWitness: "witness",
		api.EnWalk:    "walk",
		api.EnField:   "field",
		api.EnPaid:    "paid",
		api.EnCustom:  "custom",
		api.EnClaim:   "claim",
		api.EnAnswer:  "answer",
		api.EnRuling:  "ruling",
		api.EnBack:    "back",
	}
}

// writer is words that are laid one after the other.
type writer struct {
	words []string
	long  bool // a text had too many bytes
}

func (w *writer) numbers(l ...int) {
	for _, n := range l {
		w.words = append(w.words, sheet.Int(n))
	}
}

func (w *writer) text(s string) {
	word, e := sheet.Text(s)
	if e != api.OK {
		w.long = true
	}
	w.words = append(w.words, word)
}

func (w *writer) sight(s api.Sight) {
	w.numbers(s.Year, s.At.X.Lo, s.At.X.Hi, s.At.Y.Lo, s.At.Y.Hi)
	w.text(s.Letters)
	w.numbers(s.Height.Lo, s.Height.Hi)
}

// Words returns the words of an entry.
func Words(e api.Entry) ([]string, api.Errno) {
	if err := CheckEntry(e); err != api.OK {
		return nil, err
	}
	w := &writer{}
	w.numbers(e.Written)
	w.words = append(w.words, kindNames()[e.Kind])
	contentOf(e).lay(w)
	if w.long || len(w.words) > api.MaxWords {
		return nil, api.ErrLimit
	}
	return w.words, api.OK
}

func (c chainMade) lay(w *writer)     { w.numbers(c.ID, c.Year, c.Made.Lo, c.Made.Hi, c.Wear) }
func (c chainProved) lay(w *writer)   { w.numbers(c.Chain, c.Year, c.Long.Lo, c.Long.Hi) }
func (c chainRepaired) lay(w *writer) { w.numbers(c.Chain, c.Year, c.Made.Lo, c.Made.Hi) }

func (c stoneSet) lay(w *writer) {
	w.numbers(c.stone, c.habit.Step, c.habit.Place, c.habit.Sink)
	w.sight(c.sight)
}

func (c stoneSeen) lay(w *writer) {
	w.numbers(c.stone)
	w.sight(c.sight)
}

func (c stoneNoted) lay(w *writer)   { w.numbers(c.stone, c.note.Kind, c.note.From, c.note.To) }
func (c witnessNamed) lay(w *writer) { w.numbers(c.ID, c.Right, c.Wrong) }

func (c boundsLaid) lay(w *writer) {
	w.numbers(c.changes)
	w.numbers(c.ring...)
}

func (c walkTold) lay(w *writer) {
	w.numbers(c.by, c.walk.Year, len(c.walk.Legs))
	for _, l := range c.walk.Legs {
		w.numbers(l.From, l.To, l.Quarter, l.Measure.Chain, l.Measure.Chains, l.Measure.Links, l.Measure.Slack)
	}
	for _, o := range c.walk.Offsets {
		left := 0
		if o.Left {
			left = 1
		}
		w.numbers(o.A, o.B, o.C, left)
	}
}

func (c fieldNamed) lay(w *writer) { w.numbers(c.Number, c.At.X, c.At.Y, c.Pence) }
func (c tithePaid) lay(w *writer)  { w.numbers(c.Field, c.Year, c.Vestry, c.Pence) }

func (c customFound) lay(w *writer) {
	w.numbers(c.From, c.To)
	for part := range slices.Chunk([]byte(c.Source), api.MaxText) {
		w.text(string(part))
	}
}

func (c fieldClaimed) lay(w *writer)  { w.numbers(c.Field, c.Year, c.Until) }
func (c claimAnswered) lay(w *writer) { w.numbers(c.Vestry, c.Line) }
func (c claimRuled) lay(w *writer)    { w.numbers(c.claim.Vestry, c.claim.Line, c.vestry) }
func (c takenBack) lay(w *writer)     { w.numbers(int(c)) }
