package walk

import (
	"slices"

	"boundstone/api"
)

// With returns a parish with a further walk.
func With(p api.Parish, w api.Walk) (api.Parish, api.Errno) {
	if e := Check(p); e != api.OK {
		return api.Parish{}, e
	}
	q := copied(p)
	q.Walks = append(q.Walks, copiedWalk(w))
	if e := Check(q); e != api.OK {
		return api.Parish{}, e
	}
	return q, api.OK
}

// Without returns a parish without some walks.
func Without(p api.Parish, ids []int) (api.Parish, api.Errno) {
	if e := Check(p); e != api.OK {
		return api.Parish{}, e
	}
	q := copied(p)
	q.Walks = slices.DeleteFunc(q.Walks, func(w api.Walk) bool { return slices.Contains(ids, w.ID) })
	return q, api.OK
}

// copied returns a parish that shares no memory with another one.
func copied(p api.Parish) api.Parish {
	p.Works.Chains = slices.Clone(p.Works.Chains)
	p.Works.Proofs = slices.Clone(p.Works.Proofs)
	p.Works.Repairs = slices.Clone(p.Works.Repairs)
	p.Stones = slices.Clone(p.Stones)
	for i := range p.Stones {
		l := &p.Stones[i].Life
		l.Sights, l.Notes = slices.Clone(l.Sights), slices.Clone(l.Notes)
	}
	p.Ring = slices.Clone(p.Ring)
	p.Walks = slices.Clone(p.Walks)
	for i, w := range p.Walks {
		p.Walks[i] = copiedWalk(w)
	}
	return p
}

func copiedWalk(w api.Walk) api.Walk {
	w.Legs, w.Offsets = slices.Clone(w.Legs), slices.Clone(w.Offsets)
	return w
}
