package query

import (
	"slices"

	"hindcast/api"
)

// next goes on to the token behind this one.
func (r *reader) next() {
	at := r.rest
	for at < len(r.s) && r.s[at] == ' ' {
		at++
	}
	kind, size := cut(r.s[at:])
	r.now = api.Token{Kind: kind, Text: r.s[at : at+size], At: at}
	r.rest = at + size
}

// cut tells of the token at the front of a text its kind and size. A byte that is no token is a sign that nobody asks for.
func cut(s string) (kind int, size int) {
	switch {
	case s == "":
		return api.TokEnd, 0
	case isLetter(s[0]):
		return api.TokWord, 1 + tail(s[1:])
	case isDigit(s[0]):
		return api.TokNumber, 1 + tail(s[1:])
	case len(s) > 1 && s[0] == '-' && isDigit(s[1]):
		return api.TokNumber, 2 + tail(s[2:])
	case len(s) > 1 && slices.Contains([]string{"..", "==", "<=", ">="}, s[:2]):
		return api.TokSign, 2
	}
	return api.TokSign, 1
}

// tail tells how many letters and digits stand at the front of a text.
func tail(s string) int {
	size := 0
	for size < len(s) && (isLetter(s[size]) || isDigit(s[size])) {
		size++
	}
	return size
}

// isLetter tells whether a word may begin with a byte.
func isLetter(c byte) bool { return c >= 'A' && c <= 'Z' || c >= 'a' && c <= 'z' || c == '_' }

func isDigit(c byte) bool { return c >= '0' && c <= '9' }
