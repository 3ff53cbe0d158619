// Package lex is layer 1: see shared/doc/01-lex.md.
package lex

import (
	"slices"
	"strings"

	"semvcs/api"
)

// Scan divides a source into tokens.
func Scan(src string) (l []api.Token, tail string, at int, e api.Errno) {
	if len(src) > api.MaxFile {
		return nil, "", api.MaxFile, api.ErrLong
	}
	end := 0
	for {
		start, _ := skip(src, end)
		lead := src[end:start]
		if start == len(src) {
			return l, lead, 0, api.OK
		}
		kind, n, fault := token(src[start:])
		if fault != api.OK {
			return nil, "", start + n, fault
		}
		end = start + n
		l = append(l, api.Token{Kind: kind, Lead: lead, Text: src[start:end]})
	}
}

// Join returns the source of tokens.
func Join(l []api.Token, tail string) string {
	var b strings.Builder
	for _, t := range l {
		b.WriteString(t.Lead)
		b.WriteString(t.Text)
	}
	b.WriteString(tail)
	return b.String()
}

// Class returns the kind of token that a text is.
func Class(text string) int {
	if text == "" {
		return 0
	}
	kind, n, e := token(text)
	if e != api.OK || n != len(text) {
		return 0
	}
	return kind
}

// Trivia reports whether s consists of white space and comments.
func Trivia(s string, end bool) bool {
	at, open := skip(s, 0)
	return at == len(s) && (end || !open)
}

// Fuses reports whether two tokens must be separated.
func Fuses(a, b string) bool {
	first, second := Class(a), Class(b)
	if first == 0 || second == 0 {
		return false
	}
	l, _, _, _ := Scan(a + b)
	return !slices.Equal(l, []api.Token{{Kind: first, Text: a}, {Kind: second, Text: b}})
}
