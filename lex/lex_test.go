package lex_test

import (
	"slices"
	"strings"
	"testing"

	"semvcs/api"
	"semvcs/lex"
)

// scanned is a whole result of Scan.
type scanned struct {
	tokens []api.Token
	tail   string
	at     int
	e      api.Errno
}

func scan(src string) scanned {
	l, tail, at, e := lex.Scan(src)
	return scanned{l, tail, at, e}
}

func (x scanned) is(y scanned) bool {
	return slices.Equal(x.tokens, y.tokens) && x.tail == y.tail && x.at == y.at && x.e == y.e
}

var (
	lower24 = "a" + strings.Repeat("b", api.MaxName-1)
	upper24 = "A" + strings.Repeat("b", api.MaxName-1)
	most    = strings.Repeat("9", api.MaxDigits)
)

var reservedLower = []string{"module", "def", "type", "let", "in", "if", "then", "else", "true", "false"}
var reservedUpper = []string{"Int", "Text", "Bool"}
var signs = []string{"(", ")", "[", "]", ":", ",", "=", "+", "-", "*", "<", "==", "?"}

// kinds are texts with what P1.1 says of them.
func kinds() map[string]int {
	m := map[string]int{
		"x": api.Lower, "x_1Z": api.Lower, "a_": api.Lower, "z9": api.Lower, "i": api.Lower, "iff": api.Lower, "int": api.Lower, "inT": api.Lower, lower24: api.Lower,
		"X": api.Upper, "A_": api.Upper, "Z9": api.Upper, "Ints": api.Upper, "If": api.Upper, "TEXT": api.Upper, upper24: api.Upper,
		"M.f": api.LowerOf, "M.iff": api.LowerOf, "M_1.f_2": api.LowerOf, upper24 + "." + lower24: api.LowerOf,
		"M.F": api.UpperOf, "M.M": api.UpperOf, "M.Ints": api.UpperOf, upper24 + "." + upper24: api.UpperOf,
		"0": api.Number, "9": api.Number, "10": api.Number, "100": api.Number, most: api.Number,
		`""`: api.String, `" "`: api.String, `"#"`: api.String, `"a b~!"`: api.String, `"` + strings.Repeat("a", api.MaxFile+1) + `"`: api.String,

		"": 0, " ": 0, "\n": 0, " x": 0, "x ": 0, "x#": 0, "#x\nx": 0, "x y": 0, "#": 0, "#a\n": 0, "_": 0, "_x": 0, ".": 0, "x.": 0, ".x": 0, "!": 0, ">": 0, "\x00": 0, "\x7f": 0, "x\x00": 0, "\xc3\xa4": 0,
		lower24 + "b": 0, upper24 + "b": 0, upper24 + "b.f": 0, "M." + lower24 + "b": 0, "M." + upper24 + "b": 0,
		"m.f": 0, "m.F": 0, "M.": 0, "M.1": 0, "M._": 0, "M .f": 0, "M. f": 0, "M.f.g": 0, "M.F.g": 0, "Int.f": 0, "Text.F": 0, "if.f": 0, "M..f": 0,
		"00": 0, "01": 0, "0" + most: 0, most + "9": 0, "1a": 0, "1.5": 0, "-1": 0, "+1": 0,
		`"`: 0, `"a`: 0, `a"`: 0, `"a""`: 0, `""""`: 0, `"\"`: 0, `"\n"`: 0, "\"\t\"": 0, "\"\n\"": 0, "\"\r\"": 0, "\"\x7f\"": 0, "\"\x1f\"": 0, "\"\xff\"": 0,
		"===": 0, "=<": 0, "((": 0, "()": 0, "= ": 0, "/": 0, "{": 0, "\\": 0,
	}
	for _, w := range append(reservedLower, reservedUpper...) {
		m[w] = api.Reserved
		m["M."+w] = 0
		m[w+".f"] = 0
	}
	for _, s := range signs {
		m[s] = api.Sign
	}
	return m
}

func TestClass(t *testing.T) {
	for text, want := range kinds() {
		if got := lex.Class(text); got != want {
			t.Errorf("P1.1: Class(%q) is %d, not %d", text, got, want)
		}
	}
}

func TestClassOfEachByte(t *testing.T) {
	for c := range 256 {
		text := string([]byte{byte(c)})
		want := 0
		switch {
		case 'a' <= c && c <= 'z':
			want = api.Lower
		case 'A' <= c && c <= 'Z':
			want = api.Upper
		case '0' <= c && c <= '9':
			want = api.Number
		case slices.Contains(signs, text):
			want = api.Sign
		}
		if got := lex.Class(text); got != want {
			t.Errorf("P1.1: Class(%q) is %d, not %d", text, got, want)
		}
		inWord := want == api.Lower || want == api.Upper || want == api.Number || c == '_'
		if got := lex.Class("v"+text) == api.Lower; got != inWord {
			t.Errorf("P1.1: %q in a word: %t", text, got)
		}
		inString := 32 <= c && c <= 126 && c != '"' && c != '\\'
		if got := lex.Class(`"`+text+`"`) == api.String; got != inString {
			t.Errorf("P1.1: %q in a string: %t", text, got)
		}
	}
}

func TestTrivia(t *testing.T) {
	for _, x := range []struct {
		s            string
		within, last bool
	}{
		{"", true, true},
		{" \t\r\n", true, true},
		{"#\n", true, true},
		{"#a\n", true, true},
		{" # a # b \"\\~\t\r\n\t#\n ", true, true},
		{"#\r\n#\n#\n", true, true},
		{"#", false, true},
		{"#a", false, true},
		{"#a\r", false, true},
		{"#a\n#b", false, true},
		{" #a\n \t#", false, true},
		{"x", false, false},
		{" x", false, false},
		{"x\n", false, false},
		{"#a\nx", false, false},
		{"#a\n#b\n1#", false, false},
		{"#\x00\n", false, false},
		{"#\x00", false, false},
		{"#a\x0b", false, false},
		{"#\x7f\n", false, false},
		{"#\x80\n", false, false},
		{"#\xc3\xa4\n", false, false},
		{"\x0b", false, false},
		{"\x0c", false, false},
		{"\x00", false, false},
		{"\xa0", false, false},
		{"_", false, false},
	} {
		if got := lex.Trivia(x.s, false); got != x.within {
			t.Errorf("P1.2: Trivia(%q, false) is %t", x.s, got)
		}
		if got := lex.Trivia(x.s, true); got != x.last {
			t.Errorf("P1.2: Trivia(%q, true) is %t", x.s, got)
		}
	}
	if s := strings.Repeat(" #x\n", api.MaxFile); !lex.Trivia(s, false) || !lex.Trivia(s, true) {
		t.Error("P1.2: trivia may be long")
	}
}

func TestTriviaOfEachByte(t *testing.T) {
	for c := range 256 {
		s := string([]byte{byte(c)})
		white := c == 9 || c == 10 || c == 13 || c == 32
		if lex.Trivia(s, false) != white || lex.Trivia(s, true) != (white || c == '#') {
			t.Errorf("P1.2: %q alone", s)
		}
		comment := white || 32 < c && c < 127
		if lex.Trivia("#"+s+"\n", false) != comment || lex.Trivia("#"+s, true) != comment {
			t.Errorf("P1.2: %q in a comment", s)
		}
		if got := lex.Trivia("#"+s, false); got != (c == 10) {
			t.Errorf("P1.2: %q at the end of a comment", s)
		}
	}
}

func TestScan(t *testing.T) {
	token := func(kind int, lead, text string) api.Token { return api.Token{Kind: kind, Lead: lead, Text: text} }
	for _, x := range []struct {
		src  string
		want scanned
	}{
		{"", scanned{}},
		{" #", scanned{tail: " #"}},
		{"x #a\n+ 10 ", scanned{tokens: []api.Token{token(api.Lower, "", "x"), token(api.Sign, " #a\n", "+"), token(api.Number, " ", "10")}, tail: " "}},
		{"M.f M.T M", scanned{tokens: []api.Token{token(api.LowerOf, "", "M.f"), token(api.UpperOf, " ", "M.T"), token(api.Upper, " ", "M")}}},
		{"a===b", scanned{tokens: []api.Token{token(api.Lower, "", "a"), token(api.Sign, "", "=="), token(api.Sign, "", "="), token(api.Lower, "", "b")}}},
		{"= =", scanned{tokens: []api.Token{token(api.Sign, "", "="), token(api.Sign, " ", "=")}}},
		{"12ab0", scanned{tokens: []api.Token{token(api.Number, "", "12"), token(api.Lower, "", "ab0")}}},
		{"0x1", scanned{tokens: []api.Token{token(api.Number, "", "0"), token(api.Lower, "", "x1")}}},
		{"-1", scanned{tokens: []api.Token{token(api.Sign, "", "-"), token(api.Number, "", "1")}}},
		{`"a#"#"b`, scanned{tokens: []api.Token{token(api.String, "", `"a#"`)}, tail: `#"b`}},
		{`"a""b"x`, scanned{tokens: []api.Token{token(api.String, "", `"a"`), token(api.String, "", `"b"`), token(api.Lower, "", "x")}}},
		{"letx let", scanned{tokens: []api.Token{token(api.Lower, "", "letx"), token(api.Reserved, " ", "let")}}},
		{"Int\tInts\r\n", scanned{tokens: []api.Token{token(api.Reserved, "", "Int"), token(api.Upper, "\t", "Ints")}, tail: "\r\n"}},
		{"#first\n#second\n?#third\r\t", scanned{tokens: []api.Token{token(api.Sign, "#first\n#second\n", "?")}, tail: "#third\r\t"}},
		{"M.f(", scanned{tokens: []api.Token{token(api.LowerOf, "", "M.f"), token(api.Sign, "", "(")}}},
	} {
		if got := scan(x.src); !got.is(x.want) {
			t.Errorf("P1.3: Scan(%q) is %v, not %v", x.src, got, x.want)
		}
	}
}

func TestScanGivesKinds(t *testing.T) {
	for text, kind := range kinds() {
		if kind == 0 || len(text) > api.MaxFile-4 {
			continue
		}
		want := scanned{tokens: []api.Token{{Kind: kind, Lead: "\t#\n", Text: text}}, tail: " "}
		if got := scan("\t#\n" + text + " "); !got.is(want) {
			t.Errorf("P1.3: Scan of %q is %v", text, got)
		}
	}
}

func TestScanErrors(t *testing.T) {
	lower25, upper25 := lower24+"b", upper24+"b"
	for _, x := range []struct {
		src string
		at  int
		e   api.Errno
	}{
		{"\x00", 0, api.ErrByte},
		{"a \x0b", 2, api.ErrByte},
		{"a\x7f", 1, api.ErrByte},
		{"\xc3\xa4", 0, api.ErrByte},
		{"a #b\x01\n", 4, api.ErrByte},
		{"#\x80", 1, api.ErrByte},
		{"\"a\x01\"", 2, api.ErrByte},
		{"\"a\x01\\", 2, api.ErrByte},
		{"\"a\x01\n", 2, api.ErrByte},
		{"\"a\x01", 2, api.ErrByte},
		{"M\x01f", 1, api.ErrByte},
		{"1 \x01 !", 2, api.ErrByte},

		{`"`, 0, api.ErrSyntax},
		{`x "a`, 2, api.ErrSyntax},
		{`x "a\"`, 2, api.ErrSyntax},
		{"x \"a\t\"", 2, api.ErrSyntax},
		{"x \"a\n\"", 2, api.ErrSyntax},
		{"x \"a\r\"", 2, api.ErrSyntax},
		{"x \"a\\\x01\"", 2, api.ErrSyntax},
		{"x \"a\n\x01\"", 2, api.ErrSyntax},
		{`"a" "`, 4, api.ErrSyntax},

		{"a 01", 2, api.ErrSyntax},
		{"00", 0, api.ErrSyntax},
		{"01x", 0, api.ErrSyntax},
		{"0" + most, 0, api.ErrSyntax},
		{"a " + most + "9", 2, api.ErrLong},
		{most + "9\x01", 0, api.ErrLong},

		{"( " + lower25, 2, api.ErrLong},
		{upper25, 0, api.ErrLong},
		{lower25 + ".f", 0, api.ErrLong},
		{lower25 + "\x01", 0, api.ErrLong},
		{"a " + upper25 + ".f", 2, api.ErrLong},
		{"a " + upper25 + ".", 2, api.ErrLong},
		{"a M." + lower25, 2, api.ErrLong},
		{"a M." + upper25, 2, api.ErrLong},
		{upper25 + ".if", 0, api.ErrLong},
		{upper25 + "." + lower25, 0, api.ErrLong},
		{"if" + lower25, 0, api.ErrLong},

		{"M.if", 0, api.ErrSyntax},
		{"a M.Int", 2, api.ErrSyntax},
		{"M.if.f", 0, api.ErrSyntax},

		{"a.f", 1, api.ErrSyntax},
		{"in.f", 2, api.ErrSyntax},
		{"Int.f", 3, api.ErrSyntax},
		{"M.f.g", 3, api.ErrSyntax},
		{"M.T.g", 3, api.ErrSyntax},
		{"M.", 1, api.ErrSyntax},
		{"M. f", 1, api.ErrSyntax},
		{"M .f", 2, api.ErrSyntax},
		{"M.1", 1, api.ErrSyntax},
		{"M._", 1, api.ErrSyntax},
		{"M.\x01", 1, api.ErrSyntax},
		{"1.f", 1, api.ErrSyntax},
		{"_a", 0, api.ErrSyntax},
		{"a !", 2, api.ErrSyntax},
		{"! \x00", 0, api.ErrSyntax},
		{"! " + lower25, 0, api.ErrSyntax},
	} {
		if got := scan(x.src); !got.is(scanned{at: x.at, e: x.e}) {
			t.Errorf("P1.3: Scan(%q) is %v, not error %d at %d", x.src, got, x.e, x.at)
		}
	}
}

func TestScanOfEachByte(t *testing.T) {
	for c := range 256 {
		s := string([]byte{byte(c)})
		may := c == 9 || c == 10 || c == 13 || 32 <= c && c <= 126
		for _, src := range []string{s, "a" + s, " #a" + s} {
			got := scan(src)
			if (got.e != api.ErrByte) != may || !may && !got.is(scanned{at: len(src) - 1, e: api.ErrByte}) {
				t.Errorf("P1.3: Scan(%q) is %v", src, got)
			}
		}
		begins := lex.Class(s) != 0 || lex.Trivia(s, true) || c == '"'
		if got := scan("(" + s); may && !begins && !got.is(scanned{at: 1, e: api.ErrSyntax}) {
			t.Errorf("P1.3: Scan of %q is %v", s, got)
		}
	}
}

func TestScanLimit(t *testing.T) {
	for _, fill := range []string{" ", "(", "\x00", `"`, "a", "9", "#"} {
		src := strings.Repeat(fill, api.MaxFile+1)
		if got := scan(src); !got.is(scanned{at: api.MaxFile, e: api.ErrLong}) {
			t.Errorf("P1.3: %d times %q: %d at %d", len(src), fill, got.e, got.at)
		}
	}
	if got := scan(strings.Repeat("(", api.MaxFile)); len(got.tokens) != api.MaxFile || got.e != api.OK {
		t.Errorf("P1.3: as many tokens as bytes: %d, error %d", len(got.tokens), got.e)
	}
	if got := scan("x" + strings.Repeat(" ", api.MaxFile-1)); len(got.tail) != api.MaxFile-1 || got.e != api.OK {
		t.Errorf("P1.3: a tail of %d bytes, error %d", len(got.tail), got.e)
	}
	text := `"` + strings.Repeat("a", api.MaxFile-2) + `"`
	if got := scan(text); !got.is(scanned{tokens: []api.Token{{Kind: api.String, Text: text}}}) {
		t.Error("P1.3: a string may be as long as a source")
	}
}

func TestJoin(t *testing.T) {
	for _, x := range []struct {
		tokens     []api.Token
		tail, want string
	}{
		{nil, "", ""},
		{nil, "\x00 no trivia", "\x00 no trivia"},
		{[]api.Token{{Kind: api.Lower, Lead: " ", Text: "x"}, {Kind: api.Sign, Text: "+"}}, "#", " x+#"},
		{[]api.Token{{Kind: -1, Lead: "x", Text: " "}, {}, {Text: "\xff"}}, "y", "x \xffy"},
		{[]api.Token{{Text: "a"}, {Text: "b"}}, "", "ab"},
		{[]api.Token{{Text: strings.Repeat("a", api.MaxFile)}, {Lead: "b"}}, "", strings.Repeat("a", api.MaxFile) + "b"},
	} {
		if got := lex.Join(x.tokens, x.tail); got != x.want {
			t.Errorf("P1.4: Join(%v, %q) is %q", x.tokens, x.tail, got)
		}
	}
}

func TestFuses(t *testing.T) {
	long := func(n int) string { return `"` + strings.Repeat("a", n-2) + `"` }
	for _, x := range []struct {
		a, b string
		want bool
	}{
		{"x", "1", true}, {"x", "y", true}, {"x", "Y", true}, {"X", "y", true}, {"X", "1", true}, {"i", "f", true}, {"in", "x", true}, {"x", "in", true}, {"Int", "x", true}, {"x", "M.f", true}, {"in", "M.f", true},
		{"M", "f", true}, {"M", "M.f", true}, {"M.f", "x", true}, {"M.f", "1", true}, {"M.T", "T", true}, {"M.f", "M.f", true}, {lower24, "x", true},
		{"1", "1", true}, {"0", "1", true}, {"0", "0", true}, {most, "1", true}, {"=", "=", true}, {"=", "==", true},

		{"1", "x", false}, {"1", "M.f", false}, {"0", "x", false}, {"1", "in", false}, {"==", "=", false}, {"==", "==", false}, {"<", "=", false}, {"-", "1", false}, {"(", "(", false}, {"(", ")", false}, {"[", "]", false}, {"?", "?", false},
		{"x", "(", false}, {"M.f", "(", false}, {"(", "x", false}, {"x", ":", false}, {"Int", ",", false}, {"x", "==", false}, {"1", "+", false}, {"=", "x", false},
		{`"a"`, `"b"`, false}, {`"#"`, "x", false}, {"x", `"#"`, false}, {`""`, `""`, false}, {"1", `"1"`, false},
		{long(api.MaxFile - 1), "(", false}, {long(api.MaxFile / 2), long(api.MaxFile / 2), false},
		{long(api.MaxFile), "(", true}, {"(", long(api.MaxFile), true}, {long(api.MaxFile / 2), long(api.MaxFile/2 + 1), true}, {long(api.MaxFile + 1), "x", true},

		{"", "", false}, {"", "x", false}, {"x", "", false}, {"x", " ", false}, {" ", "x", false}, {"x", " y", false}, {"x ", "y", false}, {"#", "x", false}, {"M", ".f", false}, {"M.", "f", false}, {"0", "01", false}, {"=", "===", false}, {"M.if", "x", false}, {"x", "\x00", false}, {`"`, `"`, false}, {lower24 + "b", "x", false}, {"x", most + "9", false},
	} {
		if got := lex.Fuses(x.a, x.b); got != x.want {
			t.Errorf("P1.5: Fuses(%.30q, %.30q) is %t", x.a, x.b, got)
		}
	}
}

func TestArgumentsAndResults(t *testing.T) {
	room := []api.Token{{Kind: api.Lower, Lead: "a", Text: "b"}, {Lead: "c", Text: "d"}}
	before := slices.Clone(room)
	if got := lex.Join(room[:1], "e"); got != "abe" || !slices.Equal(room, before) {
		t.Errorf("R2: Join gives %q and leaves %v", got, room)
	}
	first := scan("x + y")
	clear(first.tokens)
	if second := scan("x + y"); lex.Join(second.tokens, second.tail) != "x + y" {
		t.Errorf("R2, R3: a second Scan gives %v", second)
	}
}
