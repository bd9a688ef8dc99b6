package register_test

import (
	"slices"

	"boundstone/api"
	"boundstone/credit"
	"boundstone/custom"
	"boundstone/register"
	"boundstone/walk"
)

// This file answers questions about valid registers, reading the chapter word by word.

// slowBench returns the bench of a year.
func slowBench(r api.Register, year int) (api.Bench, api.Errno) {
	p, e := walk.Problem(r.Parish, year)
	if e != api.OK {
		return api.Bench{}, e
	}
	b := api.Bench{Witnesses: r.Witnesses, Problem: p}
	for _, w := range r.Parish.Walks {
		for _, t := range r.Told {
			if w.Year == year && t.Walk == w.ID {
				b.Accounts = append(b.Accounts, api.Account{ID: w.ID, Witness: t.Witness})
			}
		}
	}
	if e := credit.Check(b); e != api.OK {
		return api.Bench{}, e
	}
	return b, api.OK
}

// slowBlamed returns the walks that are in all least withdrawals, and those that are in some.
func slowBlamed(r api.Register, year int) (all, some []int, e api.Errno) {
	b, e := slowBench(r, year)
	if e != api.OK {
		return nil, nil, e
	}
	least, e := credit.Least(b)
	if e != api.OK {
		return nil, nil, e
	}
	count := map[int]int{}
	for _, set := range least {
		for _, id := range set {
			count[id]++
		}
	}
	ids := map[int]bool{}
	for id := range count {
		ids[id] = true
	}
	some = sortedKeys(ids)
	all = slices.DeleteFunc(slices.Clone(some), func(id int) bool { return count[id] < len(least) })
	return all, some, api.OK
}

// slowLearn returns the register with other records.
func slowLearn(r api.Register, year int) (api.Register, api.Errno) {
	wrong, _, e := slowBlamed(r, year)
	if e != api.OK {
		return api.Register{}, e
	}
	b, _ := slowBench(r, year)
	r = plain(r)
	for _, a := range b.Accounts {
		i := slices.IndexFunc(r.Witnesses, func(w api.Witness) bool { return w.ID == a.Witness })
		if slices.Contains(wrong, a.ID) {
			r.Witnesses[i].Wrong++
		} else {
			r.Witnesses[i].Right++
		}
	}
	for _, w := range r.Witnesses {
		if w.Right > 10000 || w.Wrong > 10000 {
			return api.Register{}, api.ErrLimit
		}
	}
	return r, api.OK
}

// slowFieldOf returns the field with a number; ErrNone if there is none.
func slowFieldOf(r api.Register, number int) (api.Field, api.Errno) {
	for _, f := range r.Fields {
		if f.Number == number {
			return f, api.OK
		}
	}
	return api.Field{}, api.ErrNone
}

// slowSide returns whether a field lies inside of the bounds in a year.
func slowSide(r api.Register, number, year int) (api.Answer, api.Errno) {
	f, e := slowFieldOf(r, number)
	if e != api.OK {
		return 0, e
	}
	b, e := slowBench(r, year)
	if e != api.OK {
		return 0, e
	}
	least, e := credit.Least(b)
	if e != api.OK {
		return 0, e
	}
	count := map[api.Answer]int{}
	for _, set := range least {
		p, e := walk.Without(r.Parish, set)
		if e != api.OK {
			return 0, e
		}
		s, e := walk.Side(p, year, f.At)
		if e != api.OK {
			return 0, e
		}
		count[s.Answer]++
	}
	for _, a := range []api.Answer{api.Yes, api.No} {
		if count[a] == len(least) {
			return a, api.OK
		}
	}
	return api.Open, api.OK
}

// fact returns an atom of numbers.
func fact(pred string, numbers ...int) api.Atom {
	var args []api.Term
	for _, n := range numbers {
		args = append(args, api.Term{Kind: api.TeNumber, N: n})
	}
	return api.Atom{Pred: pred, Args: args}
}

// slowHeld returns the pence that were paid to a vestry for a field and a year.
func slowHeld(r api.Register, vestry, number, year int) int {
	sum := 0
	for _, p := range r.Paid {
		if p.Field == number && p.Year == year && p.Vestry == vestry {
			sum += p.Pence
		}
	}
	return sum
}

// slowAtoms returns what customs are told of a field in a year.
func slowAtoms(r api.Register, number, year int) ([]api.Atom, api.Errno) {
	if _, e := slowFieldOf(r, number); e != api.OK {
		return nil, e
	}
	if year < 0 || year > lastYear {
		return nil, api.ErrArg
	}
	l := []api.Atom{fact("field", number), fact("year", year)}
	switch side, e := slowSide(r, number, year); {
	case e != api.OK:
		l = append(l, fact("unknown", number))
	case side == api.Open:
		l = append(l, fact("open", number))
	default:
		l = append(l, fact("side", number, map[api.Answer]int{api.Yes: 1, api.No: 2}[side]))
	}
	claims := slices.DeleteFunc(slices.Clone(r.Claims), func(c api.Claimed) bool { return c.Claim.Field != number || c.Claim.Year > year })
	slices.SortFunc(claims, func(a, b api.Claimed) int {
		return slices.Compare([]int{a.Claim.Year, a.ID}, []int{b.Claim.Year, b.ID})
	})
	for v := 1; v <= 2; v++ {
		if slices.ContainsFunc(claims, func(c api.Claimed) bool { return c.Vestry == v && c.Holder == 0 }) {
			l = append(l, fact("claimed", number, v))
		}
		if slowHeld(r, v, number, year-1) > slowHeld(r, 3-v, number, year-1) {
			l = append(l, fact("had", number, v))
		}
	}
	holder := 0
	for _, c := range claims {
		if c.Holder != 0 {
			holder = c.Holder
		}
	}
	if holder != 0 {
		l = append(l, fact("holder", number, holder))
	}
	slices.SortFunc(l, custom.Compare)
	return l, api.OK
}

const usual = "takes(F, V) if holder(F, V). held(F) if holder(F, V). takes(F, V) if side(F, V), not held(F). takes(F, V) if open(F), had(F, V), not held(F)."

// slowClauses returns the clauses by which tithes are taken in a year.
func slowClauses(l []api.Custom, year int) []api.Clause {
	var now []api.Clause
	for _, c := range l {
		if c.From <= year && year <= c.To {
			now = append(now, c.Clauses...)
		}
	}
	if len(now) == 0 {
		now = clauses(usual)
	}
	return now
}

// takes is what Takes returns.
type takes struct {
	vestry int
	e      api.Errno
}

// slowTakes returns the vestry that takes the tithe of a field in a year, or an error.
func slowTakes(r api.Register, number, year int) takes {
	base, e := slowAtoms(r, number, year)
	if e != api.OK {
		return takes{0, e}
	}
	model, e := custom.Model(slowClauses(r.Customs, year), base)
	if e != api.OK {
		return takes{0, e}
	}
	var seconds []api.Term
	for _, a := range model {
		if a.Pred == "takes" && len(a.Args) == 2 && a.Args[0] == (api.Term{Kind: api.TeNumber, N: number}) {
			seconds = append(seconds, a.Args[1])
		}
	}
	switch {
	case len(seconds) == 0:
		return takes{0, api.ErrNone}
	case len(seconds) == 1 && seconds[0] == api.Term{Kind: api.TeNumber, N: 1}:
		return takes{1, api.OK}
	case len(seconds) == 1 && seconds[0] == api.Term{Kind: api.TeNumber, N: 2}:
		return takes{2, api.OK}
	}
	return takes{0, api.ErrClash}
}

// slowRests returns the customs without which another vestry would take the tithe.
func slowRests(r api.Register, number, year int) []int {
	all := slowTakes(r, number, year)
	var ids []int
	for _, c := range r.Customs {
		less := r
		less.Customs = slices.DeleteFunc(slices.Clone(r.Customs), func(d api.Custom) bool { return d.ID == c.ID })
		if slowTakes(less, number, year) != all {
			ids = append(ids, c.ID)
		}
	}
	return ids
}

// byNumber returns the fields by their numbers.
func byNumber(r api.Register) []api.Field {
	var l []api.Field
	for n := 1; n <= lastField; n++ {
		if f, e := slowFieldOf(r, n); e == api.OK {
			l = append(l, f)
		}
	}
	return l
}

// slowDues returns what is due in a year.
func slowDues(r api.Register, year int) []api.Due {
	var l []api.Due
	for _, f := range byNumber(r) {
		if t := slowTakes(r, f.Number, year); t.e == api.OK {
			l = append(l, api.Due{Field: f.Number, Vestry: t.vestry, Pence: f.Pence})
		} else {
			l = append(l, api.Due{Field: f.Number, Err: t.e})
		}
	}
	return l
}

// slowTransfers returns what has to be moved for the years of a span.
func slowTransfers(r api.Register, years api.Span) []api.Transfer {
	var l []api.Transfer
	for year := years.Lo; year <= years.Hi; year++ {
		for _, f := range byNumber(r) {
			t := slowTakes(r, f.Number, year)
			if t.e != api.OK {
				continue
			}
			right, wrong := slowHeld(r, t.vestry, f.Number, year), slowHeld(r, 3-t.vestry, f.Number, year)
			if wrong > 0 {
				l = append(l, api.Transfer{Field: f.Number, Year: year, From: 3 - t.vestry, To: t.vestry, Pence: wrong})
			}
			switch rest := f.Pence - right - wrong; {
			case rest > 0:
				l = append(l, api.Transfer{Field: f.Number, Year: year, To: t.vestry, Pence: rest})
			case rest < 0:
				l = append(l, api.Transfer{Field: f.Number, Year: year, From: t.vestry, Pence: -rest})
			}
		}
	}
	return l
}

// slowMoved returns the fields whose tithe goes elsewhere in some year of a span.
func slowMoved(a, b api.Register, years api.Span) []int {
	moved := map[int]bool{}
	for _, f := range append(byNumber(a), byNumber(b)...) {
		for year := years.Lo; year <= years.Hi; year++ {
			if slowTakes(a, f.Number, year) != slowTakes(b, f.Number, year) {
				moved[f.Number] = true
			}
		}
	}
	return sortedKeys(moved)
}

// slowNeeds returns the entries without which a tithe would go elsewhere.
func slowNeeds(l []api.Entered, known, number, year int) []api.Name {
	r, _ := register.Fold(l, known)
	all := slowTakes(r, number, year)
	var names []api.Name
	for _, x := range slowEffective(l, known) {
		less := slices.DeleteFunc(slices.Clone(l), func(y api.Entered) bool {
			return y.Name == x.Name || y.Name.Vestry == x.Name.Vestry && y.Entry.Kind == api.EnBack && y.Entry.Target.Line == x.Name.Line
		})
		if q, e := register.Fold(less, known); e != api.OK || slowTakes(q, number, year) != all {
			names = append(names, x.Name)
		}
	}
	return names
}
