package custom

import (
	"iter"
	"strconv"

	"boundstone/api"
)

// token is a term, or else a mark or a reserved word, and the index of its first byte.
type token struct {
	term api.Term
	mark string
	at   int
}

// marks has the longer ones ahead of those with which they begin.
var marks = [...]string{"!=", "<=", ">=", "(", ")", ",", ".", "=", "<", ">"}

// stop is the error for which the reading of a source is given up, and its index.
type stop struct {
	err api.Errno
	at  int
}

// giveUp stops the reading of a source that is malformed.
func giveUp(at int) { panic(stop{api.ErrForm, at}) }

// tokens yields the tokens of a source; it gives up at the first byte at which none begins.
func tokens(source string) iter.Seq[token] {
	return func(yield func(token) bool) {
		for at := skipped(source, 0); at < len(source); {
			t, end := tokenAt(source, at)
			if !yield(t) {
				return
			}
			at = skipped(source, end)
		}
	}
}

// skipped returns the index of the first byte, from an index on, that does not merely separate tokens.
func skipped(source string, at int) int {
	for comment := false; at < len(source); at++ {
		switch c := source[at]; {
		case c == '\n':
			comment = false
		case c == '#':
			comment = true
		case !comment && c != ' ' && c != '\t':
			return at
		}
	}
	return at
}

// tokenAt returns the token that begins at an index, and the index behind it.
func tokenAt(source string, at int) (token, int) {
	switch c := source[at]; {
	case isLetter(c):
		return wordAt(source, at)
	case isDigit(c) || c == '-':
		return numberAt(source, at)
	}
	return markAt(source, at)
}

func wordAt(source string, at int) (token, int) {
	end := at + letters(source[at:])
	word := source[at:end]
	switch {
	case isName(word):
		return token{term: api.Term{Kind: api.TeName, S: word}, at: at}, end
	case isVariable(word):
		return token{term: api.Term{Kind: api.TeVar, S: word}, at: at}, end
	case !isReserved(word):
		giveUp(at) // it is too long
	}
	return token{mark: word, at: at}, end
}

func numberAt(source string, at int) (token, int) {
	first := at
	if source[at] == '-' {
		first++
		if first == len(source) || !isDigit(source[first]) || source[first] == '0' {
			giveUp(at)
		}
	}
	end := first + 1
	for source[first] != '0' && end < len(source) && isDigit(source[end]) {
		end++
	}
	n, err := strconv.Atoi(source[at:end])
	if err != nil || !isNumber(n) {
		giveUp(at)
	}
	if letters(source[end:]) > 0 {
		giveUp(end)
	}
	return token{term: api.Term{Kind: api.TeNumber, N: n}, at: at}, end
}

func markAt(source string, at int) (token, int) {
	for _, m := range marks {
		if end := at + len(m); end <= len(source) && source[at:end] == m {
			return token{mark: m, at: at}, end
		}
	}
	giveUp(at)
	return token{}, at
}
