package stone_test

import (
	"math/rand/v2"
	"reflect"
	"slices"
	"strings"
	"testing"

	"boundstone/api"
)

const (
	limit    = 1 << 20 // the greatest coordinate
	greatID  = 1 << 40
	lastYear = 4000
)

func span(lo, hi int) api.Span { return api.Span{Lo: lo, Hi: hi} }

func box(xlo, xhi, ylo, yhi int) api.Box { return api.Box{X: span(xlo, xhi), Y: span(ylo, yhi)} }

func at(x, y int) api.Point { return api.Point{X: x, Y: y} }

func sight(id, year int, b api.Box, letters string, lo, hi int) api.Sight {
	return api.Sight{ID: id, Year: year, At: b, Letters: letters, Height: span(lo, hi)}
}

func note(id, kind, from, to int) api.Note {
	return api.Note{ID: id, Kind: kind, From: from, To: to}
}

func habit(step, place, sink int) api.Habit { return api.Habit{Step: step, Place: place, Sink: sink} }

func life(h api.Habit, sights ...api.Sight) api.Life { return api.Life{Habit: h, Sights: sights} }

// noting returns a life with further notes.
func noting(l api.Life, notes ...api.Note) api.Life {
	l.Notes = slices.Concat(l.Notes, notes)
	return l
}

// example returns the life of the chapter's examples.
func example() api.Life {
	return life(habit(10, 3, 1),
		sight(1, 1700, box(0, 5, 0, 5), "A.", 20, 30),
		sight(2, 1710, box(4, 9, 3, 9), ".B", 5, 25),
		sight(3, 1720, box(17, 22, 3, 4), "A.", 0, 40),
	)
}

// impossible returns a life that can have had no course.
func impossible() api.Life { return noting(example(), note(4, api.GaSame, 1700, 1710)) }

// full returns a life with as many sights and notes as are allowed, at the limits of the numbers, which can have had all courses with the kinds that the notes ask for.
func full() api.Life {
	l := api.Life{Habit: habit(10000, 10000, 20)}
	for k := range 9 {
		l.Sights = append(l.Sights, sight(greatID-k, 500*k, box(-limit, limit, -limit, limit), "........", 0, 100))
	}
	for k := range 20 {
		l.Notes = append(l.Notes, note(k+1, 1+k%2, 0, lastYear))
	}
	return l
}

func copied(l api.Life) api.Life {
	return api.Life{Habit: l.Habit, Sights: slices.Clone(l.Sights), Notes: slices.Clone(l.Notes)}
}

func sameLife(a, b api.Life) bool {
	return a.Habit == b.Habit && slices.Equal(a.Sights, b.Sights) && slices.Equal(a.Notes, b.Notes)
}

func sameLived(a, b api.Lived) bool {
	return slices.Equal(a.Points, b.Points) && slices.Equal(a.Letters, b.Letters) && slices.Equal(a.Heights, b.Heights) && slices.Equal(a.Course, b.Course)
}

// less returns a life without a sight or a note.
func less(l api.Life, id int) api.Life {
	rest := api.Life{Habit: l.Habit}
	for _, s := range l.Sights {
		if s.ID != id {
			rest.Sights = append(rest.Sights, s)
		}
	}
	for _, n := range l.Notes {
		if n.ID != id {
			rest.Notes = append(rest.Notes, n)
		}
	}
	return rest
}

// idsOf returns the IDs of the sights and notes in increasing order.
func idsOf(l api.Life) []int {
	var ids []int
	for _, s := range l.Sights {
		ids = append(ids, s.ID)
	}
	for _, n := range l.Notes {
		ids = append(ids, n.ID)
	}
	slices.Sort(ids)
	return ids
}

// lists returns all lists of n numbers from 0 to most.
func lists(n, most int) [][]int {
	if n == 0 {
		return [][]int{{}}
	}
	var l [][]int
	for _, first := range lists(n-1, most) {
		for x := range most + 1 {
			l = append(l, append(slices.Clone(first), x))
		}
	}
	return l
}

// coursesOf returns all courses of a life, also those that it cannot have had.
func coursesOf(l api.Life) [][]int { return lists(len(l.Sights)-1, 2) }

func changesOf(course []int) int {
	n := 0
	for _, kind := range course {
		if kind == api.GaMoved || kind == api.GaReplaced {
			n++
		}
	}
	return n
}

// form is what a stone is at a sight.
type form struct {
	at      api.Point
	letters string
	height  int
}

// alphabet is the letters of the slow reading: A and B stand in patterns, and Y and Z for all other ones.
const alphabet = "ABYZ"

// readings returns the letters that can be read as a pattern.
func readings(pattern string) []string {
	if pattern == "" {
		return []string{""}
	}
	choice := pattern[:1]
	if choice == "." {
		choice = alphabet
	}
	var l []string
	for _, rest := range readings(pattern[1:]) {
		for _, letter := range choice {
			l = append(l, string(letter)+rest)
		}
	}
	return l
}

func pointsOf(b api.Box) []api.Point {
	var l []api.Point
	for x := b.X.Lo; x <= b.X.Hi; x++ {
		for y := b.Y.Lo; y <= b.Y.Hi; y++ {
			l = append(l, at(x, y))
		}
	}
	return l
}

// formsOf returns all that a stone can be by a sight alone: condition 1.
func formsOf(s api.Sight) []form {
	var l []form
	for _, p := range pointsOf(s.At) {
		for height := s.Height.Lo; height <= s.Height.Hi; height++ {
			for _, letters := range readings(s.Letters) {
				l = append(l, form{p, letters, height})
			}
		}
	}
	return l
}

func near(p, q api.Point, by int) bool {
	return p.X-q.X <= by && q.X-p.X <= by && p.Y-q.Y <= by && q.Y-p.Y <= by
}

// follows reports whether the conditions 2 to 4 allow two forms, so many years apart.
func follows(h api.Habit, kind, years int, a, b form) bool {
	switch kind {
	case api.GaSame:
		return a.at == b.at && a.letters == b.letters && b.height <= a.height && b.height >= a.height-h.Sink*years
	case api.GaMoved:
		return a.letters == b.letters && near(a.at, b.at, h.Step)
	}
	return near(a.at, b.at, h.Place)
}

// keeps reports whether a course is as a note says: the conditions 5 and 6.
func keeps(l api.Life, n api.Note, course []int) bool {
	all, some := true, false
	for k, kind := range course {
		a, b := l.Sights[k].Year, l.Sights[k+1].Year
		if n.From <= a && b <= n.To && kind != api.GaSame {
			all = false
		}
		if a <= n.To && b >= n.From && kind == n.Kind {
			some = true
		}
	}
	if n.Kind == api.GaSame {
		return all
	}
	return some
}

// formsIn returns for each sight the forms that it has in what is true of a life and has a course; nil if there are none.
func formsIn(l api.Life, course []int) [][]form {
	for _, n := range l.Notes {
		if !keeps(l, n, course) {
			return nil
		}
	}
	there := make([][]form, len(l.Sights))
	for k, s := range l.Sights {
		there[k] = formsOf(s)
		if k > 0 {
			there[k] = slices.DeleteFunc(there[k], func(b form) bool {
				return !slices.ContainsFunc(there[k-1], func(a form) bool {
					return follows(l.Habit, course[k-1], s.Year-l.Sights[k-1].Year, a, b)
				})
			})
		}
	}
	for k := len(course) - 1; k >= 0; k-- {
		there[k] = slices.DeleteFunc(there[k], func(a form) bool {
			return !slices.ContainsFunc(there[k+1], func(b form) bool {
				return follows(l.Habit, course[k], l.Sights[k+1].Year-l.Sights[k].Year, a, b)
			})
		})
	}
	if len(there[0]) == 0 {
		return nil
	}
	return there
}

// truth is the slow reading of a life: for each course that it can have had, by its text, the forms at each sight.
type truth struct {
	courses [][]int
	forms   map[string][][]form
}

func textOf(course []int) string {
	var b strings.Builder
	for _, kind := range course {
		b.WriteByte(byte('0' + kind))
	}
	return b.String()
}

func truthOf(l api.Life) truth {
	x := truth{forms: map[string][][]form{}}
	for _, course := range coursesOf(l) {
		if forms := formsIn(l, course); forms != nil {
			x.courses = append(x.courses, course)
			x.forms[textOf(course)] = forms
		}
	}
	return x
}

// fewest returns the least number of changes; one more than a life can have if it is impossible.
func (x truth) fewest() int {
	few := 9
	for _, course := range x.courses {
		few = min(few, changesOf(course))
	}
	return few
}

// boxOf returns the least box that has some forms.
func boxOf(l []form) api.Box {
	b := box(l[0].at.X, l[0].at.X, l[0].at.Y, l[0].at.Y)
	for _, f := range l {
		b = coverOf(b, box(f.at.X, f.at.X, f.at.Y, f.at.Y))
	}
	return b
}

func coverOf(a, b api.Box) api.Box {
	return box(min(a.X.Lo, b.X.Lo), max(a.X.Hi, b.X.Hi), min(a.Y.Lo, b.Y.Lo), max(a.Y.Hi, b.Y.Hi))
}

// extentsOf returns the least boxes that have the forms of all courses with at most so many changes; nil if there are none.
func (x truth) extentsOf(changes int) []api.Box {
	var boxes []api.Box
	for _, course := range x.courses {
		if changesOf(course) > changes {
			continue
		}
		for k, forms := range x.forms[textOf(course)] {
			b := boxOf(forms)
			if k == len(boxes) {
				boxes = append(boxes, b)
			}
			boxes[k] = coverOf(boxes[k], b)
		}
	}
	return boxes
}

func newRand(a, b uint64) *rand.Rand { return rand.New(rand.NewPCG(a, b)) }

// about returns a span that has a number, and lies within another one.
func about(r *rand.Rand, n, most int, whole api.Span) api.Span {
	return span(max(whole.Lo, n-r.IntN(most+1)), min(whole.Hi, n+r.IntN(most+1)))
}

// blotted returns letters, some of which cannot be read.
func blotted(r *rand.Rand, letters string) string {
	l := []byte(letters)
	for i := range l {
		if r.IntN(2) == 0 {
			l[i] = '.'
		}
	}
	return string(l)
}

// scale says how great the numbers of random lives are.
type scale struct {
	sights, coord, slack, step, sink, height, letters, years, notes int
}

// small is so small that the slow reading can follow, and large as great as is allowed.
var (
	small = scale{sights: 4, coord: 4, slack: 1, step: 3, sink: 2, height: 8, letters: 2, years: 3, notes: 2}
	large = scale{sights: 9, coord: limit, slack: 20000, step: 10000, sink: 20, height: 100, letters: 8, years: 400, notes: 20}
)

// randomLetters returns letters of the alphabet.
func randomLetters(r *rand.Rand, n int) string {
	l := make([]byte, n)
	for i := range l {
		l[i] = alphabet[r.IntN(len(alphabet))]
	}
	return string(l)
}

// shifted returns a number at most so far away from another one, within a span.
func shifted(r *rand.Rand, n, by int, whole api.Span) int {
	return min(whole.Hi, max(whole.Lo, n+r.IntN(2*by+1)-by))
}

// randomHabit returns a habit, often with zeros or the greatest numbers.
func randomHabit(r *rand.Rand, c scale) api.Habit {
	some := func(most int) int { return []int{0, r.IntN(most + 1), most}[r.IntN(3)] }
	return habit(some(c.step), some(c.step), some(c.sink))
}

// randomLived returns what was, in some years.
func randomLived(r *rand.Rand, h api.Habit, years []int, c scale) api.Lived {
	coords := span(-c.coord, c.coord)
	length := 1 + r.IntN(c.letters)
	corner := func() int { return []int{0, c.coord, -c.coord}[r.IntN(3)] }
	x := api.Lived{
		Points:  []api.Point{at(corner(), corner())},
		Letters: []string{randomLetters(r, length)},
		Heights: []int{r.IntN(c.height + 1)},
	}
	for k := range len(years) - 1 {
		kind := []int{api.GaSame, api.GaSame, api.GaMoved, api.GaReplaced}[r.IntN(4)]
		p, letters, height := x.Points[k], x.Letters[k], x.Heights[k]
		switch kind {
		case api.GaSame:
			height = max(0, height-r.IntN(h.Sink*(years[k+1]-years[k])+1))
		case api.GaMoved:
			p = at(shifted(r, p.X, h.Step, coords), shifted(r, p.Y, h.Step, coords))
			height = r.IntN(c.height + 1)
		case api.GaReplaced:
			p = at(shifted(r, p.X, h.Place, coords), shifted(r, p.Y, h.Place, coords))
			letters, height = randomLetters(r, length), r.IntN(c.height+1)
		}
		x.Points, x.Letters, x.Heights = append(x.Points, p), append(x.Letters, letters), append(x.Heights, height)
		x.Course = append(x.Course, kind)
	}
	return x
}

// randomLife returns a life, and what is true of it.
func randomLife(r *rand.Rand, c scale) (api.Life, api.Lived) {
	l := api.Life{Habit: randomHabit(r, c)}
	ids := r.Perm(c.sights + c.notes)
	years := []int{r.IntN(c.years + 1)}
	for len(years) < c.sights && r.IntN(c.sights+1) > 0 {
		years = append(years, years[len(years)-1]+1+r.IntN(c.years))
	}
	x := randomLived(r, l.Habit, years, c)
	slack, whole := c.slack*r.IntN(2), span(-limit, limit)
	for k, year := range years {
		p := x.Points[k]
		l.Sights = append(l.Sights, api.Sight{
			ID: 1 + ids[k], Year: year, Letters: blotted(r, x.Letters[k]),
			At:     api.Box{X: about(r, p.X, slack, whole), Y: about(r, p.Y, slack, whole)},
			Height: about(r, x.Heights[k], c.slack, span(0, c.height)),
		})
	}
	for i := range r.IntN(c.notes + 1) {
		n := randomNote(r, 1+ids[len(years)+i], years)
		if keeps(l, n, x.Course) {
			l.Notes = append(l.Notes, n)
		}
	}
	return l, x
}

// randomNote returns a note about years near some years.
func randomNote(r *rand.Rand, id int, years []int) api.Note {
	near := func() int { return min(lastYear, max(0, years[r.IntN(len(years))]+r.IntN(3)-1)) }
	a, b := near(), near()
	return note(id, r.IntN(3), min(a, b), max(a, b))
}

// spoilt returns a life in which some things may be wrong.
func spoilt(r *rand.Rand, l api.Life, c scale) api.Life {
	l = copied(l)
	for k := range l.Sights {
		s := &l.Sights[k]
		switch r.IntN(8) {
		case 0:
			n := shifted(r, s.At.X.Lo, c.step+1, span(-limit, limit))
			s.At.X = about(r, n, c.slack, span(-limit, limit))
		case 1:
			n := r.IntN(c.height + 1)
			s.Height = about(r, n, 1, span(0, c.height))
		case 2:
			s.Letters = blotted(r, randomLetters(r, len(s.Letters)))
		case 3:
			s.Letters = blotted(r, randomLetters(r, 1+r.IntN(c.letters)))
		}
	}
	for i := range l.Notes {
		if r.IntN(4) == 0 {
			l.Notes[i].Kind = r.IntN(3)
		}
	}
	return l
}

// isNothing reports whether a result is a zero value, or a list of nothing.
func isNothing(x any) bool {
	v := reflect.ValueOf(x)
	return v.IsZero() || v.Kind() == reflect.Slice && v.Len() == 0
}

// checkNothing checks that there is nothing beside errors, which stand last in lists of results.
func checkNothing(t *testing.T, results map[string][]any) {
	t.Helper()
	for name, l := range results {
		last := len(l) - 1
		for _, x := range l[:last] {
			if l[last] != api.OK && !isNothing(x) {
				t.Errorf("R4: together with the error %v %s returns %v", l[last], name, x)
			}
		}
	}
}
