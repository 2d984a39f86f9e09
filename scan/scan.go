// Package scan: texts as tokens (doc/01-scan.md).
package scan

import (
	"strings"

	"cloister/api"
)

// maxDigits keeps a Number within what every int holds.
const maxDigits = 9

// Word: is s a word of the language?
func Word(s string) bool {
	switch s {
	case "chief", "acts", "in", "out", "proc", "begin", "for",
		"var", "if", "else", "while", "send", "take", "do", "return",
		"release", "to", "int", "bool", "true", "false":
		return true
	}
	return false
}

// Name: may something be called s?
func Name(s string) bool {
	if s == "" || len(s) > api.MaxName {
		return false
	}
	return beginsName(s[0]) && run(s, inName) == s && !Word(s)
}

// Scan answers the tokens of s.
func Scan(s string) ([]api.Token, api.Fault) {
	if len(s) > api.MaxText {
		return nil, api.Fault{Code: api.ErrMany}
	}
	var l []api.Token
	next := reader(s)
	for {
		t, code := next()
		if code == api.OK && t.Kind == 0 {
			return l, api.Fault{}
		}
		if code == api.OK && len(l) == api.MaxTokens {
			code = api.ErrMany
		}
		if code != api.OK {
			return nil, api.Fault{Code: code, At: t.At}
		}
		l = append(l, t)
	}
}

// Join answers a text of the tokens l.
func Join(l []api.Token) (string, api.Errno) {
	if len(l) > api.MaxTokens {
		return "", api.ErrMany
	}
	for _, t := range l {
		if len(t.Text) > api.MaxText {
			return "", api.ErrMany
		}
	}
	// Not strings.Join: of one text it answers that text itself, no new memory.
	var b strings.Builder
	for i, t := range l {
		if i > 0 {
			b.WriteByte(' ')
		}
		b.WriteString(t.Text)
	}
	return b.String(), api.OK
}

// reader answers a closure that reads the bytes of s from the left, a token a
// call: where it stands, and what is wrong with it. Behind the last one it has
// no Kind.
func reader(s string) func() (api.Token, api.Errno) {
	at := 0
	return func() (api.Token, api.Errno) {
		at += gap(s[at:])
		t := api.Token{At: at}
		if at == len(s) {
			return t, api.OK
		}
		kind, text, code := first(s[at:])
		if code != api.OK {
			return t, code
		}
		at += len(text)
		// A piece of s would keep what was handed in.
		t.Kind, t.Text = kind, strings.Clone(text)
		return t, api.OK
	}
}

// gap: how many bytes ahead of the first token of s only part tokens.
func gap(s string) int {
	i := 0
	for i < len(s) {
		switch {
		case blank(s[i]):
			i++
		case s[i] == '#':
			i += len(run(s[i:], inLine))
		default:
			return i
		}
	}
	return i
}

// first reads the token with which s, which isn't empty, begins.
func first(s string) (kind int, text string, code api.Errno) {
	switch {
	case beginsName(s[0]):
		return letters(run(s, inName))
	case digit(s[0]):
		return digits(run(s, digit))
	}
	text = sign(s)
	if text == "" {
		return 0, "", api.ErrText
	}
	return api.Sign, text, api.OK
}

func letters(s string) (kind int, text string, code api.Errno) {
	if len(s) > api.MaxName {
		return 0, "", api.ErrMany
	}
	if Word(s) {
		return api.Word, s, api.OK
	}
	return api.Name, s, api.OK
}

func digits(s string) (kind int, text string, code api.Errno) {
	if len(s) > maxDigits || len(s) > 1 && s[0] == '0' {
		return 0, "", api.ErrRange
	}
	return api.Number, s, api.OK
}

// sign: the longest sign with which s, which isn't empty, begins; "": none.
func sign(s string) string {
	if len(s) > 1 {
		switch s[:2] {
		case "&&", "||", "==", "!=", "<=", ">=":
			return s[:2]
		}
	}
	switch s[0] {
	case '+', '-', '*', '/', '%', '<', '>', '!',
		'(', ')', '{', '}', ',', ';', ':', '=':
		return s[:1]
	}
	return ""
}

// run: the bytes with which s begins as long as they are of a kind.
func run(s string, of func(byte) bool) string {
	i := 0
	for i < len(s) && of(s[i]) {
		i++
	}
	return s[:i]
}

func blank(c byte) bool { return c == ' ' || c == '\t' || c == '\n' }

func inLine(c byte) bool { return c != '\n' }

func digit(c byte) bool { return '0' <= c && c <= '9' }

func beginsName(c byte) bool {
	return 'a' <= c && c <= 'z' || 'A' <= c && c <= 'Z' || c == '_'
}

func inName(c byte) bool { return beginsName(c) || digit(c) }
