package register

import (
	"slices"

	"boundstone/api"
)

func (g *growing) addClaim(c api.Claimed) api.Errno {
	if c.Vestry == api.Diocese || !isYear(c.Claim.Year) || !isYear(c.Claim.Until) {
		return api.ErrArg
	}
	if !hasField(g.Fields, c.Claim.Field) {
		return api.ErrNone
	}
	if len(g.Claims) >= api.MaxClaims {
		return api.ErrLimit
	}
	g.Claims = append(g.Claims, c)
	return api.OK
}

// claim returns the index of the claim that an entry with a name has made; -1 if there is none.
func (g *growing) claim(name api.Name) int {
	if !isParish(name.Vestry) { // its number could be too great
		return -1
	}
	return slices.IndexFunc(g.Claims, func(c api.Claimed) bool { return c.ID == numberOf(name) })
}

// answer notes what a vestry has answered to a claim.
func (g *growing) answer(vestry, written int, target api.Name) api.Errno {
	i := g.claim(target)
	if i < 0 {
		return api.ErrNone
	}
	if c := g.Claims[i]; vestry != other(c.Vestry) || written > c.Claim.Until {
		return api.ErrState
	}
	g.answered[g.Claims[i].ID] = true
	return api.OK
}

// other returns the other parish.
func other(vestry int) int { return api.Inner + api.Outer - vestry }

// grant lets the claims that were not answered in time have the fields.
func (g *growing) grant() {
	for i, c := range g.Claims {
		if !g.answered[c.ID] && c.Claim.Until < g.known {
			g.Claims[i].Holder = c.Vestry
		}
	}
}

// rule lets a vestry have the field of a claim, by what a vestry has ruled.
func (g *growing) rule(by int, target api.Name, vestry int) api.Errno {
	if by != api.Diocese || !isParish(vestry) {
		return api.ErrArg
	}
	i := g.claim(target)
	if i < 0 {
		return api.ErrNone
	}
	g.Claims[i].Holder = vestry
	return api.OK
}
