package walk

import "boundstone/api"

func within(s api.Span, n int) bool { return s.Lo <= n && n <= s.Hi }

func validID(id int) bool { return within(api.Span{Lo: 1, Hi: api.MaxID}, id) }

func validYear(year int) bool { return within(api.Span{Hi: api.MaxYear}, year) }

// long returns how many numbers a span has.
func long(s api.Span) int { return s.Hi - s.Lo + 1 }
