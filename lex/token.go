package lex

import "semvcs/api"

// skip passes over white space and comments from offset i on. It returns the
// offset of the first byte that belongs to neither, and whether a comment is
// still open there: then this byte may not occur, or s has ended.
func skip(s string, i int) (at int, open bool) {
scan:
	for ; i < len(s); i++ {
		switch c := s[i]; {
		case !allowed(c):
			break scan
		case open:
			open = c != '\n'
		case c == '#':
			open = true
		case !white(c):
			break scan
		}
	}
	return i, open
}

// token returns the kind and the length of the longest token with which s
// begins; s is not empty. With an error it returns the offset of the error
// in place of the length.
func token(s string) (kind, n int, e api.Errno) {
	switch c := s[0]; {
	case !allowed(c):
		return 0, 0, api.ErrByte
	case letter(c):
		return word(s)
	case digit(c):
		return number(s)
	case c == '"':
		return quoted(s)
	}
	return sign(s)
}

// word is token for an s that begins with a letter.
func word(s string) (kind, n int, e api.Errno) {
	n = wordLength(s)
	if upper(s[0]) && !reserved(s[:n]) && len(s) > n+1 && s[n] == '.' && letter(s[n+1]) {
		return qualified(s, n)
	}
	switch {
	case n > api.MaxName:
		return 0, 0, api.ErrLong
	case reserved(s[:n]):
		return api.Reserved, n, api.OK
	case upper(s[0]):
		return api.Upper, n, api.OK
	}
	return api.Lower, n, api.OK
}

// qualified is token for an s that begins with an upper word of n bytes that
// is not reserved, a dot and a letter.
func qualified(s string, n int) (kind, length int, e api.Errno) {
	half := s[n+1:]
	m := wordLength(half)
	switch {
	case n > api.MaxName || m > api.MaxName:
		return 0, 0, api.ErrLong
	case reserved(half[:m]):
		return 0, 0, api.ErrSyntax
	case upper(half[0]):
		return api.UpperOf, n + 1 + m, api.OK
	}
	return api.LowerOf, n + 1 + m, api.OK
}

// number is token for an s that begins with a digit.
func number(s string) (kind, n int, e api.Errno) {
	for n < len(s) && digit(s[n]) {
		n++
	}
	switch {
	case n > 1 && s[0] == '0':
		return 0, 0, api.ErrSyntax
	case n > api.MaxDigits:
		return 0, 0, api.ErrLong
	}
	return api.Number, n, api.OK
}

// quoted is token for an s that begins with a quote.
func quoted(s string) (kind, n int, e api.Errno) {
	for i := 1; i < len(s); i++ {
		switch s[i] {
		case '"':
			return api.String, i + 1, api.OK
		case '\\', '\t', '\n', '\r':
			return 0, 0, api.ErrSyntax
		}
		if !allowed(s[i]) {
			return 0, i, api.ErrByte
		}
	}
	return 0, 0, api.ErrSyntax
}

// sign is token for every other s.
func sign(s string) (kind, n int, e api.Errno) {
	switch s[0] {
	case '=':
		if len(s) > 1 && s[1] == '=' {
			return api.Sign, 2, api.OK
		}
		return api.Sign, 1, api.OK
	case '(', ')', '[', ']', ':', ',', '+', '-', '*', '<', '?':
		return api.Sign, 1, api.OK
	}
	return 0, 0, api.ErrSyntax
}

// wordLength returns how many letters, digits and _ stand at the beginning of s.
func wordLength(s string) int {
	n := 0
	for n < len(s) && (letter(s[n]) || digit(s[n]) || s[n] == '_') {
		n++
	}
	return n
}

func reserved(word string) bool {
	switch word {
	case "module", "def", "type", "let", "in", "if", "then", "else", "true", "false", "Int", "Text", "Bool":
		return true
	}
	return false
}

// allowed reports whether c may occur in a source.
func allowed(c byte) bool {
	return white(c) || ' ' < c && c <= '~'
}

func white(c byte) bool {
	switch c {
	case '\t', '\n', '\r', ' ':
		return true
	}
	return false
}

func letter(c byte) bool {
	return upper(c) || 'a' <= c && c <= 'z'
}

func upper(c byte) bool {
	return 'A' <= c && c <= 'Z'
}

func digit(c byte) bool {
	return '0' <= c && c <= '9'
}
