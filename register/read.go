package register

import (
	"slices"
	"strings"

	"boundstone/api"
	"boundstone/sheet"
)

// reader takes words one after the other, and gives up by a panic if they are not as they should be.
type reader struct{ rest []string }

// noEntry is why a reader gives up.
type noEntry struct{}

// Read returns the entry that words are.
func Read(words []string) (api.Entry, api.Errno) {
	e := read(words)
	// The words are compared as a whole: some that are too many, or parts of a source that are too short, make other ones.
	again, err := Words(e)
	if err != api.OK || !slices.Equal(again, words) {
		return api.Entry{}, api.ErrForm
	}
	return e, api.OK
}

// read returns an entry with the first ones of some words; if there is none, the zero entry, which is not formed.
func read(words []string) (e api.Entry) {
	defer func() {
		if recover() != nil {
			e = api.Entry{}
		}
	}()
	r := &reader{rest: words}
	e.Written = r.number()
	e.Kind = r.kind()
	r.content(e.Kind).fill(&e)
	return e
}

func (r *reader) word() string {
	if len(r.rest) == 0 {
		panic(noEntry{})
	}
	word := r.rest[0]
	r.rest = r.rest[1:]
	return word
}

func (r *reader) number() int {
	n, e := sheet.ReadInt(r.word())
	if e != api.OK {
		panic(noEntry{})
	}
	return n
}

func (r *reader) text() string {
	s, e := sheet.ReadText(r.word())
	if e != api.OK {
		panic(noEntry{})
	}
	return s
}

func (r *reader) kind() int {
	names := kindNames()
	kind := slices.Index(names[:], r.word())
	if kind < api.EnChain {
		panic(noEntry{})
	}
	return kind
}

func (r *reader) span() api.Span { return api.Span{Lo: r.number(), Hi: r.number()} }

func (r *reader) sight() api.Sight {
	return api.Sight{Year: r.number(), At: api.Box{X: r.span(), Y: r.span()}, Letters: r.text(), Height: r.span()}
}

func (r *reader) name() api.Name { return api.Name{Vestry: r.number(), Line: r.number()} }

// content takes what an entry of a kind says.
func (r *reader) content(kind int) content {
	switch kind {
	case api.EnChain:
		return chainMade{ID: r.number(), Year: r.number(), Made: r.span(), Wear: r.number()}
	case api.EnProof:
		return chainProved{Chain: r.number(), Year: r.number(), Long: r.span()}
	case api.EnRepair:
		return chainRepaired{Chain: r.number(), Year: r.number(), Made: r.span()}
	case api.EnStone:
		return stoneSet{r.number(), api.Habit{Step: r.number(), Place: r.number(), Sink: r.number()}, r.sight()}
	case api.EnSight:
		return stoneSeen{r.number(), r.sight()}
	case api.EnNote:
		return stoneNoted{r.number(), api.Note{Kind: r.number(), From: r.number(), To: r.number()}}
	case api.EnBounds:
		return boundsLaid{changes: r.number(), ring: r.ring()}
	case api.EnWitness:
		return witnessNamed{ID: r.number(), Right: r.number(), Wrong: r.number()}
	case api.EnWalk:
		return walkTold{r.number(), r.walk()}
	case api.EnField:
		return fieldNamed{Number: r.number(), At: api.Point{X: r.number(), Y: r.number()}, Pence: r.number()}
	case api.EnPaid:
		return tithePaid{Field: r.number(), Year: r.number(), Vestry: r.number(), Pence: r.number()}
	case api.EnCustom:
		return customFound{From: r.number(), To: r.number(), Source: r.source()}
	case api.EnClaim:
		return fieldClaimed{Field: r.number(), Year: r.number(), Until: r.number()}
	case api.EnAnswer:
		return claimAnswered(r.name())
	case api.EnRuling:
		return claimRuled{r.name(), r.number()}
	}
	return takenBack(r.number())
}

func (r *reader) ring() []int {
	var l []int
	for len(r.rest) > 0 {
		l = append(l, r.number())
	}
	return l
}

func (r *reader) source() string {
	var b strings.Builder
	for len(r.rest) > 0 {
		b.WriteString(r.text())
	}
	return b.String()
}

func (r *reader) walk() api.Walk {
	w := api.Walk{Year: r.number()}
	for range r.number() {
		w.Legs = append(w.Legs, r.leg(w.Year))
	}
	for len(r.rest) > 0 {
		w.Offsets = append(w.Offsets, api.Offset{A: r.number(), B: r.number(), C: r.number(), Left: r.number() == 1})
	}
	return w
}

func (r *reader) leg(year int) api.Leg {
	return api.Leg{
		From: r.number(), To: r.number(), Quarter: r.number(),
		Measure: api.Measure{Chain: r.number(), Year: year, Chains: r.number(), Links: r.number(), Slack: r.number()},
	}
}
