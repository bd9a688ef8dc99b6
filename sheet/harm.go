package sheet

import (
	"strings"

	"boundstone/api"
)

// part is what stands in a copy up to a line feed, or its end.
type part struct {
	content []byte
	end     string // the line feed, if there is one
	lost    bool
}

// Harmed returns a copy with harms.
func Harmed(s string, l []api.Harm) (string, api.Errno) {
	if len(l) > api.MaxHarms || len(s) > api.MaxSheet {
		return "", api.ErrLimit
	}
	parts := cutParts(s)
	for _, h := range l {
		if h.A < 0 || h.A >= len(parts) || !parts[h.A].suffer(h) {
			return "", api.ErrArg
		}
	}
	return joinParts(parts), api.OK
}

func cutParts(s string) []part {
	var l []part
	for text := range strings.SplitAfterSeq(s, feed) {
		if text == "" { // behind the last line feed, or in an empty copy
			continue
		}
		content, ended := strings.CutSuffix(text, feed)
		p := part{content: []byte(content)}
		if ended {
			p.end = feed
		}
		l = append(l, p)
	}
	return l
}

func joinParts(l []part) string {
	var b strings.Builder
	for _, p := range l {
		if !p.lost {
			b.Write(p.content)
			b.WriteString(p.end)
		}
	}
	return b.String()
}

// suffer does a harm to a part, and reports whether there is such a harm.
func (p *part) suffer(h api.Harm) bool {
	if h.Kind < api.HaLost || h.Kind > api.HaSwapped {
		return false
	}
	if p.lost {
		return true
	}
	if !p.has(h) {
		return false
	}
	switch h.Kind {
	case api.HaLost:
		p.lost = true
	case api.HaCut:
		p.content = p.content[:h.B]
	case api.HaBlot:
		p.content[h.B] = blot
	case api.HaWrong:
		p.content[h.B] = byte(h.C)
	case api.HaSwapped:
		p.content[h.B], p.content[h.B+1] = p.content[h.B+1], p.content[h.B]
	}
	return true
}

// has reports whether the content of a part has the bytes of a harm, and the byte that it puts there is one.
func (p *part) has(h api.Harm) bool {
	size := len(p.content)
	switch h.Kind {
	case api.HaCut:
		return h.B >= 0 && h.B <= size
	case api.HaBlot:
		return h.B >= 0 && h.B < size
	case api.HaWrong:
		return h.B >= 0 && h.B < size && h.C >= 0 && h.C <= 255
	case api.HaSwapped:
		return h.B >= 0 && h.B < size-1
	}
	return true
}
