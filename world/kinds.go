package world

import (
	"slices"

	"hindcast/api"
)

// mayBe tells whether these may be the kinds of a world.
func mayBe(kinds []api.Kind) bool {
	if len(kinds) < 1 || len(kinds) > api.MaxKinds {
		return false
	}
	var names []string
	for _, kind := range kinds {
		if len(kind.Fields) > api.MaxFields || !areWords(kind.Fields) {
			return false
		}
		names = append(names, kind.Name)
	}
	return areWords(names)
}

// areWords tells whether all texts are words, and no two the same.
func areWords(texts []string) bool {
	for i, text := range texts {
		if !isWord(text) || slices.Contains(texts[:i], text) {
			return false
		}
	}
	return true
}

func isWord(text string) bool {
	if text == "" || len(text) > api.MaxName || !isLetter(text[0]) {
		return false
	}
	for i := range len(text) {
		if c := text[i]; !isLetter(c) && !isDigit(c) && c != '_' {
			return false
		}
	}
	return true
}

func isLetter(c byte) bool { return c >= 'A' && c <= 'Z' || c >= 'a' && c <= 'z' }

func isDigit(c byte) bool { return c >= '0' && c <= '9' }

func cloneKinds(kinds []api.Kind) []api.Kind {
	clone := slices.Clone(kinds)
	for i, kind := range kinds {
		clone[i].Fields = slices.Clone(kind.Fields)
	}
	return clone
}

// isKind tells whether there is a kind of this number.
func (w *World) isKind(kind int) bool { return kind >= 1 && kind <= len(w.kinds) }

// fields tells how many a kind has.
func (w *World) fields(kind int) int { return len(w.kinds[kind-1].Fields) }

// has tells whether a kind is in a set.
func has(set int, kind int) bool { return set>>kind&1 != 0 }
