package lex_test

import (
	"regexp"
	"slices"
	"strings"
	"testing"

	"semvcs/api"
	"semvcs/lex"
)

// What the chapter says of tokens and of what lies between them, as patterns.
var (
	allBetween  = regexp.MustCompile(`\A(?:[\t\n\r ]|#[\t\r -~]*(?:\n|\z))*`)
	allComment  = regexp.MustCompile(`\A#[\t\r -~]*`)
	allWord     = regexp.MustCompile(`\A[A-Za-z][A-Za-z0-9_]*`)
	allDotted   = regexp.MustCompile(`\A[A-Z][A-Za-z0-9_]*\.[A-Za-z][A-Za-z0-9_]*`)
	allDigits   = regexp.MustCompile(`\A[0-9]+`)
	allOpened   = regexp.MustCompile(`\A"[ !#-\[\]-~]*`)
	allSign     = regexp.MustCompile(`\A(?:==|[()\[\]:,=+*<?-])`)
	allowedByte = regexp.MustCompile(`\A[\t\n\r -~]`)
)

func isReserved(word string) bool {
	return slices.Contains(reservedLower, word) || slices.Contains(reservedUpper, word)
}

// wordModel says what stands at the beginning of s, where a word begins.
func wordModel(s string) (text string, kind int, e api.Errno) {
	text = allWord.FindString(s)
	kind = api.Lower
	if text[0] < 'a' {
		kind = api.Upper
	}
	parts := []string{text}
	if dotted := allDotted.FindString(s); dotted != "" && !isReserved(text) {
		text, parts = dotted, strings.Split(dotted, ".")
		kind = api.LowerOf
		if parts[1][0] < 'a' {
			kind = api.UpperOf
		}
	}
	for _, p := range parts {
		if len(p) > api.MaxName {
			return "", 0, api.ErrLong
		}
	}
	if isReserved(parts[len(parts)-1]) {
		if len(parts) == 2 {
			return "", 0, api.ErrSyntax
		}
		kind = api.Reserved
	}
	return text, kind, api.OK
}

// tokenModel says what stands at the beginning of s, where no trivia stand;
// at is the offset of an error.
func tokenModel(s string) (text string, kind, at int, e api.Errno) {
	switch {
	case allWord.MatchString(s):
		text, kind, e = wordModel(s)
		return text, kind, 0, e
	case allDigits.MatchString(s):
		text = allDigits.FindString(s)
		if len(text) > 1 && text[0] == '0' {
			return "", 0, 0, api.ErrSyntax
		}
		if len(text) > api.MaxDigits {
			return "", 0, 0, api.ErrLong
		}
		return text, api.Number, 0, api.OK
	case allSign.MatchString(s):
		return allSign.FindString(s), api.Sign, 0, api.OK
	case allComment.MatchString(s):
		return "", 0, len(allComment.FindString(s)), api.ErrByte
	case !allowedByte.MatchString(s):
		return "", 0, 0, api.ErrByte
	case !allOpened.MatchString(s):
		return "", 0, 0, api.ErrSyntax
	}
	text = allOpened.FindString(s)
	rest := s[len(text):]
	if strings.HasPrefix(rest, `"`) {
		return text + `"`, api.String, 0, api.OK
	}
	if rest == "" || allowedByte.MatchString(rest) {
		return "", 0, 0, api.ErrSyntax
	}
	return "", 0, len(text), api.ErrByte
}

func scanModel(src string) scanned {
	var x scanned
	rest := src
	for {
		lead := allBetween.FindString(rest)
		offset := len(src) - len(rest) + len(lead)
		rest = rest[len(lead):]
		if rest == "" {
			x.tail = lead
			return x
		}
		text, kind, at, e := tokenModel(rest)
		if e != api.OK {
			return scanned{at: offset + at, e: e}
		}
		x.tokens = append(x.tokens, api.Token{Kind: kind, Lead: lead, Text: text})
		rest = rest[len(text):]
	}
}

// each calls f with every text that consists of at most n of the pieces.
func each(pieces []string, n int, f func(string)) {
	var grow func(string, int)
	grow = func(s string, n int) {
		f(s)
		if n == 0 {
			return
		}
		for _, p := range pieces {
			grow(s+p, n-1)
		}
	}
	grow("", n)
}

// checkSource compares all that the package says of src with the model, and ends the
// test at the first difference, as there may be thousands.
func checkSource(t *testing.T, src string) {
	got, want := scan(src), scanModel(src)
	if !got.is(want) {
		t.Fatalf("P1.3: Scan(%q) is %v, not %v", src, got, want)
	}
	if got.e == api.OK && lex.Join(got.tokens, got.tail) != src {
		t.Fatalf("Consequences: Join of Scan of %q is another source", src)
	}
	kind := 0
	if len(want.tokens) == 1 && want.tokens[0].Text == src {
		kind = want.tokens[0].Kind
	}
	if lex.Class(src) != kind {
		t.Fatalf("P1.1: Class(%q) is %d, not %d", src, lex.Class(src), kind)
	}
	last := allBetween.FindString(src) == src
	if lex.Trivia(src, true) != last {
		t.Fatalf("P1.2: Trivia(%q, true) is %t", src, !last)
	}
	within := last && allBetween.FindString(src+"x") == src
	if lex.Trivia(src, false) != within {
		t.Fatalf("P1.2: Trivia(%q, false) is %t", src, !within)
	}
}

func TestAllShortSources(t *testing.T) {
	bytes := []string{"a", "M", ".", "0", "1", "_", `"`, `\`, "#", "=", "\n", " ", "\x01"}
	each(bytes, 4, func(src string) { checkSource(t, src) })
	words := []string{"if", "Int", "M", ".", "f", "0", "10", lower24, upper24, most, "==", "+", `"`, "#", "\r", "\n", "\xff"}
	each(words, 3, func(src string) { checkSource(t, src) })
}

func TestAllPairsOfBytes(t *testing.T) {
	for a := range 256 {
		for b := range 256 {
			checkSource(t, string([]byte{byte(a), byte(b)}))
		}
	}
}

func TestAllPairsFuse(t *testing.T) {
	for a, first := range kinds() {
		for b, second := range kinds() {
			want := scanned{tokens: []api.Token{{Kind: first, Text: a}, {Kind: second, Text: b}}}
			apart := len(a)+len(b) <= api.MaxFile && scanModel(a+b).is(want)
			fuses := first != 0 && second != 0 && !apart
			if lex.Fuses(a, b) != fuses {
				t.Errorf("P1.5: Fuses(%.30q, %.30q) is %t", a, b, !fuses)
			}
		}
	}
}

func TestTokensAreGivenBack(t *testing.T) {
	texts := []string{"x", "M", "M.f", "M.T", "0", "12", `"a"`, "if", "=", "==", "("}
	leads := []string{"", " ", "#\n"}
	tails := []string{"", "\t", "#a\n", "#"}
	var grow func([]api.Token, int)
	grow = func(l []api.Token, n int) {
		for _, tail := range tails {
			if got := scan(lex.Join(l, tail)); !got.is(scanned{tokens: l, tail: tail}) {
				t.Errorf("Consequences: Scan of Join of %v and %q is %v", l, tail, got)
			}
		}
		if n == 0 {
			return
		}
		for _, text := range texts {
			for _, lead := range leads {
				if lead == "" && len(l) > 0 && lex.Fuses(l[len(l)-1].Text, text) {
					continue
				}
				grow(append(slices.Clone(l), api.Token{Kind: lex.Class(text), Lead: lead, Text: text}), n-1)
			}
		}
	}
	grow(nil, 3)
}
