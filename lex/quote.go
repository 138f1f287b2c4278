package lex

import (
	"strings"

	"coney/api"
)

// Quote has Tokens judge each text, so that what it answers is always read back: a name that can't stand in quotes, or is too long for a text, comes to none.
func Quote(name string) string {
	if isAtom(name, name) {
		return name
	}
	if text := inQuotes(name); isAtom(text, name) {
		return text
	}
	return ""
}

// isAtom tells whether a text is one token, an atom of that name.
func isAtom(text, name string) bool {
	tokens, _, _ := Tokens(text)
	return len(tokens) == 1 && tokens[0].Kind == api.TAtom && tokens[0].Text == name
}

func inQuotes(name string) string {
	var text strings.Builder
	text.WriteByte('\'')
	for i := range len(name) {
		switch b := name[i]; b {
		case '\n':
			text.WriteString(`\n`)
		case '\t':
			text.WriteString(`\t`)
		case '\\', '\'':
			text.WriteByte('\\')
			text.WriteByte(b)
		default:
			text.WriteByte(b)
		}
	}
	text.WriteByte('\'')
	return text.String()
}
