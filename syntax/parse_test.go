package syntax_test

import (
	"strings"
	"testing"

	"semvcs/api"
	"semvcs/syntax"
)

// at is a list of numbers of tokens.
func at(tokens ...int) []int { return tokens }

func checkTree(t *testing.T, src string, want api.Tree) {
	t.Helper()
	if got := mustParse(t, src); !same(got, want) {
		t.Errorf("P2.2: Parse(%q) is\n%v, not\n%v", src, got, want)
	}
}

func TestParseOfExamples(t *testing.T) {
	checkTree(t, "module M", api.Tree{Kind: api.Module, Text: "M", Leads: []string{"", " ", ""}})
	if got, at, e := syntax.Parse("module M def f(x: Int) = x"); !same(got, api.Tree{}) || at != 23 || e != api.ErrSyntax {
		t.Errorf("P2.2: the example gives %v, error %d at %d", got, e, at)
	}
}

func TestParseOfDefinitions(t *testing.T) {
	checkTree(t, number("module M"), numbered(api.Module, "M", at(0, 1, 2)))
	checkTree(t, "\t#a\n\nmodule\r\nM #end", api.Tree{Kind: api.Module, Text: "M", Leads: []string{"\t#a\n\n", "\r\n", " #end"}})

	// 0: module M, 2: type A = [ Int ], 8: def f ( x : Text , y : Bool , z : A ) : M.B = 1, 27: the end
	src := number("module M type A = [ Int ] def f ( x : Text , y : Bool , z : A ) : M.B = 1")
	checkTree(t, src, numbered(api.Module, "M", at(0, 1, 27),
		numbered(api.Alias, "A", at(2, 3, 4),
			numbered(api.TList, "", at(5, 7), numbered(api.TInt, "", at(6)))),
		numbered(api.Func, "f", at(8, 9, 10, 22, 23, 25, 14, 18),
			numbered(api.Param, "x", at(11, 12), numbered(api.TText, "", at(13))),
			numbered(api.Param, "y", at(15, 16), numbered(api.TBool, "", at(17))),
			numbered(api.Param, "z", at(19, 20), numbered(api.TName, "A", at(21))),
			numbered(api.TName, "M.B", at(24)),
			numbered(api.Num, "1", at(26)))))

	src = number("module M def f ( ) : Int = 1 def g ( x : Int ) : Int = 2")
	checkTree(t, src, numbered(api.Module, "M", at(0, 1, 21),
		numbered(api.Func, "f", at(2, 3, 4, 5, 6, 8), numbered(api.TInt, "", at(7)), numbered(api.Num, "1", at(9))),
		numbered(api.Func, "g", at(10, 11, 12, 16, 17, 19),
			numbered(api.Param, "x", at(13, 14), numbered(api.TInt, "", at(15))),
			numbered(api.TInt, "", at(18)),
			numbered(api.Num, "2", at(20)))))
}

// bodyAt is the number of the first token of body in a numbered source of
// module M def f ( ) : Int = body.
const bodyAt = 9

func TestParseOfExpressions(t *testing.T) {
	leaf := func(kind int, text string, i int) api.Tree { return numbered(kind, text, at(i)) }
	for body, want := range map[string]api.Tree{
		"12":    leaf(api.Num, "12", 9),
		`"a#"`:  leaf(api.Str, `"a#"`, 9),
		"x":     leaf(api.Var, "x", 9),
		"true":  leaf(api.True, "", 9),
		"false": leaf(api.False, "", 9),
		"?":     leaf(api.Hole, "", 9),
		"g ( )": numbered(api.Call, "g", at(9, 10, 11)),
		"M.g ( x )": numbered(api.Call, "M.g", at(9, 10, 12),
			numbered(api.Arg, "", nil, leaf(api.Var, "x", 11))),
		"g ( 1 , x , ? )": numbered(api.Call, "g", at(9, 10, 16, 12, 14),
			numbered(api.Arg, "", nil, leaf(api.Num, "1", 11)),
			numbered(api.Arg, "", nil, leaf(api.Var, "x", 13)),
			numbered(api.Arg, "", nil, leaf(api.Hole, "", 15))),
		"[ 1 ]": numbered(api.List, "", at(9, 11), leaf(api.Num, "1", 10)),
		"[ 1 , x , ? ]": numbered(api.List, "", at(9, 15, 11, 13),
			leaf(api.Num, "1", 10), leaf(api.Var, "x", 12), leaf(api.Hole, "", 14)),
		"if 1 then x else ?": numbered(api.If, "", at(9, 11, 13),
			leaf(api.Num, "1", 10), leaf(api.Var, "x", 12), leaf(api.Hole, "", 14)),
		"let y = 1 in x": numbered(api.Let, "y", at(9, 10, 11, 13),
			leaf(api.Num, "1", 12), leaf(api.Var, "x", 14)),
		"( x )": numbered(api.Paren, "", at(9, 11), leaf(api.Var, "x", 10)),
		"1 + x": numbered(api.Bin, "+", at(10), leaf(api.Num, "1", 9), leaf(api.Var, "x", 11)),
		"a + b * c": numbered(api.Bin, "*", at(12),
			numbered(api.Bin, "+", at(10), leaf(api.Var, "a", 9), leaf(api.Var, "b", 11)),
			leaf(api.Var, "c", 13)),
		"a + ( b * c )": numbered(api.Bin, "+", at(10),
			leaf(api.Var, "a", 9),
			numbered(api.Paren, "", at(11, 15), numbered(api.Bin, "*", at(13), leaf(api.Var, "b", 12), leaf(api.Var, "c", 14)))),
		"let y = a - b in c == d": numbered(api.Let, "y", at(9, 10, 11, 15),
			numbered(api.Bin, "-", at(13), leaf(api.Var, "a", 12), leaf(api.Var, "b", 14)),
			numbered(api.Bin, "==", at(17), leaf(api.Var, "c", 16), leaf(api.Var, "d", 18))),
		"if a < b then a + b else a * b": numbered(api.If, "", at(9, 13, 17),
			numbered(api.Bin, "<", at(11), leaf(api.Var, "a", 10), leaf(api.Var, "b", 12)),
			numbered(api.Bin, "+", at(15), leaf(api.Var, "a", 14), leaf(api.Var, "b", 16)),
			numbered(api.Bin, "*", at(19), leaf(api.Var, "a", 18), leaf(api.Var, "b", 20))),
		"let y = let z = 1 in 2 in 3": numbered(api.Let, "y", at(9, 10, 11, 18),
			numbered(api.Let, "z", at(12, 13, 14, 16), leaf(api.Num, "1", 15), leaf(api.Num, "2", 17)),
			leaf(api.Num, "3", 19)),
		"if ? then if 1 then 2 else 3 else 4": numbered(api.If, "", at(9, 11, 18), leaf(api.Hole, "", 10),
			numbered(api.If, "", at(12, 14, 16), leaf(api.Num, "1", 13), leaf(api.Num, "2", 15), leaf(api.Num, "3", 17)),
			leaf(api.Num, "4", 19)),
		"[ [ 1 ] , g ( [ 2 ] ) , if 1 then 2 else 3 ]": numbered(api.List, "", at(9, 27, 13, 20),
			numbered(api.List, "", at(10, 12), leaf(api.Num, "1", 11)),
			numbered(api.Call, "g", at(14, 15, 19),
				numbered(api.Arg, "", nil, numbered(api.List, "", at(16, 18), leaf(api.Num, "2", 17)))),
			numbered(api.If, "", at(21, 23, 25), leaf(api.Num, "1", 22), leaf(api.Num, "2", 24), leaf(api.Num, "3", 26))),
		"M.f ( 1 + g ( 2 ) , let x = 1 in x )": numbered(api.Call, "M.f", at(9, 10, 24, 17),
			numbered(api.Arg, "", nil, numbered(api.Bin, "+", at(12), leaf(api.Num, "1", 11),
				numbered(api.Call, "g", at(13, 14, 16), numbered(api.Arg, "", nil, leaf(api.Num, "2", 15))))),
			numbered(api.Arg, "", nil, numbered(api.Let, "x", at(18, 19, 20, 22), leaf(api.Num, "1", 21), leaf(api.Var, "x", 23)))),
	} {
		end := bodyAt + len(strings.Fields(body))
		checkTree(t, number("module M def f ( ) : Int = "+body), numbered(api.Module, "M", at(0, 1, end),
			numbered(api.Func, "f", at(2, 3, 4, 5, 6, 8), numbered(api.TInt, "", at(7)), want)))
	}
}

func TestParseWithoutWhiteSpace(t *testing.T) {
	tree := mustParse(t, `module M def f(x:Int,y:[M.T]):Int=f(1,[x,2])+(if true then 1else 2)type A=Int`)
	ask := bare(api.If, "", bare(api.True, ""), num1, bare(api.Num, "2"))
	call := bare(api.Call, "f", arg, bare(api.Arg, "", bare(api.List, "", varX, bare(api.Num, "2"))))
	body := bare(api.Bin, "+", call, bare(api.Paren, "", ask))
	second := bare(api.Param, "y", bare(api.TList, "", bare(api.TName, "M.T")))
	want := empty(bare(api.Module, "M", bare(api.Func, "f", param, second, tInt, body), alias))
	want.Leads[1], want.Kids[0].Leads[0], want.Kids[0].Leads[1], want.Kids[1].Leads[1] = " ", " ", " ", " "
	question := &want.Kids[0].Kids[3].Kids[1].Kids[0]
	question.Leads[1], question.Kids[0].Leads[0], question.Kids[1].Leads[0], question.Kids[2].Leads[0] = " ", " ", " ", " "
	if !same(tree, want) {
		t.Errorf("P2.2: %v, not %v", tree, want)
	}
}

// failure is a source with its error. The error is at the mark ^, which is
// taken out, and at the end of a source without a mark.
type failure struct {
	marked string
	e      api.Errno
}

func (x failure) check(t *testing.T) {
	t.Helper()
	at := strings.IndexByte(x.marked, '^')
	if at < 0 {
		at = len(x.marked)
	}
	src := strings.Replace(x.marked, "^", "", 1)
	tree, got, e := syntax.Parse(src)
	if !same(tree, api.Tree{}) || got != at || e != x.e {
		t.Errorf("P2.2: Parse(%.300q): error %d at %d, not %d at %d", src, e, got, x.e, at)
	}
}

func TestParseSyntaxErrors(t *testing.T) {
	for _, marked := range []string{
		"", " ", " #a", "module", "module #a\n",
		"^M", "^def f(): Int = 1", "^1", "^M module", `^"module" M`,
		"module ^m", "module ^M.M", "module ^Int", "module ^module", "module ^1",
		"module M ^M", "module M ^1", "module M ^module M", "module M ^)", "module M ^f(): Int = 1", `module M ^"def"`,

		"module M def", "module M def ^F", "module M def ^M.f", "module M def ^if", "module M def ^(", "module M def ^1",
		"module M def f", "module M def f^:", "module M def f ^1", "module M def f^[",
		"module M def f(", "module M def f(^,", "module M def f(^X: Int", "module M def f(^1", "module M def f(^(", "module M def f(^M.x: Int",
		"module M def f(x", "module M def f(x^)", "module M def f(x^, y: Int)", "module M def f(x ^Int", "module M def f(x ^= 1",
		"module M def f(x:", "module M def f(x: ^)", "module M def f(x: ^y", "module M def f(x: ^M.f", "module M def f(x: ^1", "module M def f(x: ^def",
		"module M def f(x: Int", "module M def f(x: Int ^:", "module M def f(x: Int ^y", "module M def f(x: Int ^]", "module M def f(x: Int^= 1",
		"module M def f(x: Int,", "module M def f(x: Int, ^)", "module M def f(x: Int, ^,", "module M def f(x: Int, ^Y: Int", "module M def f(x: Int, ^type",
		"module M def f()", "module M def f() ^Int", "module M def f() ^= 1", "module M def f()^)", "module M def f()^,",
		"module M def f():", "module M def f(): ^1", "module M def f(): ^int", "module M def f(): ^=", "module M def f(): ^(Int)",
		"module M def f(): Int", "module M def f(): Int ^1", "module M def f(): Int ^== 1", "module M def f(): Int^: 1", "module M def f(): Int ^def",
		"module M def f(): Int =", "module M def f(): Int = ^def", "module M def f(): Int = ^)", "module M def f(): Int = ^Int", "module M def f(): Int = ^M",

		"module M type", "module M type ^a", "module M type ^M.A", "module M type ^Int", "module M type ^= Int",
		"module M type A", "module M type A^: Int", "module M type A^== Int", "module M type A ^Int", "module M type A^(",
		"module M type A =", "module M type A = ^1", "module M type A = ^a", "module M type A = ^M.a", "module M type A = ^type", "module M type A = ^]", `module M type A = ^"Int"`,
		"module M type A = Int ^Int", "module M type A = Int^[", "module M type A = Int ^1", "module M type A = B ^,",
		"module M type A = [", "module M type A = [^]", "module M type A = [Int", "module M type A = [Int^, Int]", "module M type A = [Int^)", "module M type A = [[Int]", "module M type A = [Int]^]",
		"module M type A = [A ^B]", "module M type A = Int ^module",
	} {
		failure{marked, api.ErrSyntax}.check(t)
	}
}

func TestParseSyntaxErrorsOfExpressions(t *testing.T) {
	for _, marked := range []string{
		"^,", "^]", "^+", "^-1", "^<", "^==", "^*", "^:", "^in", "^then", "^else", "^module", "^Text", "^Bool", "^M", "^M.T", "^module",
		"1 ^1", "1 ^x", `1 ^"a"`, "1 ^true", "1 ^?", "1 ^(", "1 ^[1]", "1^)", "1 ^]", "1 ^,", "1^:", "1 ^=", "1 ^let", "1 ^if", "1 ^then", "1 ^else", "1 ^in", "1 ^module", "1 ^M", "1 ^Int",
		"1 +", "1 + ^+ 2", "1 + ^)", "1 + ^if true then 1 else 2", "1 + ^let x = 1 in x", "1 < ^= 2", "1 ^= = 2", "1 == ^== 2", "1 + ^def", "1 - ^- 2",
		"x ^x", "x ^1", "x ^[1]", "x^= 1", "x^: Int", `x ^"a"`,
		"M.f", "M.f ^+ 1", "M.f^)", "M.f ^x", "M.f ^def", "M.f ^[1]",
		"f(", "f(^,", "f(^]", "f(^=", "f(^in", "f(^def", "f(^Int", "f(1", "f(1 ^2", "f(1^]", "f(1^: Int", "f(1,", "f(1, ^)", "f(1, ^,", "f(1, ^then", "f()^(", "f() ^x", "f()^)", "f(x)^(y)", "M.f(^:", "M.f(1, ^)",
		"[", "[^]", "[^,", "[^)", "[^else", "[1", "[1 ^2", "[1^)", "[1^:", "[1,", "[1, ^]", "[1, ^,", "[1, ^Int", "[1]^[", "[1]^(", "[1]^]",
		"(", "(^)", "(^,", "(^in", "(1", "(1^,", "(1^]", "(1 ^1", "(1)^(", "(1)^)", "(1) ^x", "(x) ^1",
		"if", "if ^then", "if ^else", "if ^)", "if 1", "if 1 ^else", "if 1 ^2", "if 1 ^in", "if 1 then", "if 1 then ^else", "if 1 then ^then", "if 1 then 2", "if 1 then 2 ^then", "if 1 then 2 ^in", "if 1 then 2^)", "if 1 then 2 ^def", "if 1 then 2 else", "if 1 then 2 else ^else", "if 1 then 2 else ^)", "if 1 then 2 else 3 ^else", "if 1 then 2 else 3 ^4",
		"let", "let ^X", "let ^M.x", "let ^=", "let ^1", "let ^let", "let ^Int", "let x", "let x ^1", "let x ^==", "let x^: Int", "let x^(", "let x ^in", "let x =", "let x = ^=", "let x = ^in", "let x = ^)", "let x = 1", "let x = 1 ^= 2", "let x = 1 ^then", "let x = 1^)", "let x = 1 ^x", "let x = 1 ^def", "let x = 1 in", "let x = 1 in ^in", "let x = 1 in ^)", "let x = 1 in x ^in", "let x = 1 in 2 ^3",
	} {
		before, after := "module M def f(): Int = ", ""
		if strings.ContainsRune(marked, '^') {
			after = " def g(): Int = 1"
		}
		failure{before + marked + after, api.ErrSyntax}.check(t)
		failure{"# a\n" + before + "\n\t" + marked + "#b" + after, api.ErrSyntax}.check(t)
	}
}

func TestParseErrorsOfTokens(t *testing.T) {
	long := strings.Repeat("a", api.MaxName+1)
	for _, x := range []failure{
		{"^\x00", api.ErrByte},
		{"module M #^\xff\n", api.ErrByte},
		{"module M ^" + long, api.ErrLong},
		{"module M def f(): Int = ^01", api.ErrSyntax},
		{"module M def f(): Int = ^1234567890123456", api.ErrLong},
		{`module M def f(): Int = ^"a`, api.ErrSyntax},
		{"module M^.", api.ErrSyntax},
		{"module M def f(): Int = ^M.if()", api.ErrSyntax},
		// the error of a token comes first, also if it is farther to the right
		{"M module ) ^!", api.ErrSyntax},
		{"M module ) ^\x7f", api.ErrByte},
		{"1 2 3 ^" + long, api.ErrLong},
	} {
		x.check(t)
	}
	src := strings.Repeat("x ", api.MaxFile/2)
	if tree, at, e := syntax.Parse(src + " "); !same(tree, api.Tree{}) || at != api.MaxFile || e != api.ErrLong {
		t.Errorf("P2.2: a source that is too long: error %d at %d", e, at)
	}
	if tree, at, e := syntax.Parse(src); !same(tree, api.Tree{}) || at != 0 || e != api.ErrSyntax {
		t.Errorf("P2.2: a source of the greatest length: error %d at %d", e, at)
	}
	src = "module M"
	src += strings.Repeat(" ", api.MaxFile-len(src))
	if tree := mustParse(t, src); len(tree.Leads) != 3 || len(tree.Leads[2]) != api.MaxFile-8 {
		t.Errorf("P2.2: a long tail: %v", tree)
	}
}

// list is n texts with commas between them.
func list(n int, text string) string {
	return strings.TrimSuffix(strings.Repeat(text+", ", n), ", ")
}

func TestParseLimits(t *testing.T) {
	const body = "module M def f(): Int = "
	definitions := strings.Repeat("def f(): Int = 1 ", api.MaxDefs/2) + strings.Repeat("type A = Int ", api.MaxDefs/2)
	parameters := "def f(" + list(api.MaxParams, "x: Int")
	arguments := list(api.MaxParams, "1")
	items := list(api.MaxItems, "1")
	for _, x := range []struct {
		src  string
		kids func(api.Tree) int
		want int
	}{
		{"module M " + definitions, func(t api.Tree) int { return len(t.Kids) }, api.MaxDefs},
		{"module M " + parameters + "): Int = 1", func(t api.Tree) int { return len(t.Kids[0].Kids) - 2 }, api.MaxParams},
		{body + "f(" + arguments + ")", func(t api.Tree) int { return len(t.Kids[0].Kids[1].Kids) }, api.MaxParams},
		{body + "M.f(" + arguments + ")", func(t api.Tree) int { return len(t.Kids[0].Kids[1].Kids) }, api.MaxParams},
		{body + "[" + items + "]", func(t api.Tree) int { return len(t.Kids[0].Kids[1].Kids) }, api.MaxItems},
	} {
		if got := x.kids(mustParse(t, x.src)); got != x.want {
			t.Errorf("P2.2: %q has %d", x.src, got)
		}
	}
	begins := []string{"1", `"a"`, "true", "false", "?", "x", "f(1)", "M.f(1)", "M.f", "[1]", "(1)", "let x = 1 in x", "if 1 then 2 else 3", "let", "if", "[", "("}
	for _, b := range begins {
		for _, rest := range []string{"", " ", ")", "]", " 1", " def", " then", ","} {
			failure{body + "f(" + arguments + ", ^" + b + rest, api.ErrLong}.check(t)
			failure{body + "M.f(" + arguments + ", #a\n^" + b + rest, api.ErrLong}.check(t)
			failure{body + "[" + items + ", ^" + b + rest, api.ErrLong}.check(t)
		}
	}
	for _, b := range []string{"def f(): Int = 1", "type A = Int", "def", "type", "def 1", "type type"} {
		failure{"module M " + definitions + "^" + b, api.ErrLong}.check(t)
	}
	for _, b := range []string{"x: Int)", "x", "y ", "x x", "x: Int, z: Int", "x)"} {
		failure{"module M " + parameters + ", ^" + b, api.ErrLong}.check(t)
	}
	for _, end := range []string{"+", "in", "then", "else", "module", "def", "type", "Int", "M", "M.T", ":", "=", "==", ",", ")", "]", "-1"} {
		failure{body + "f(" + arguments + ", ^" + end, api.ErrSyntax}.check(t)
		failure{body + "[" + items + ", ^" + end, api.ErrSyntax}.check(t)
		failure{"module M " + parameters + ", ^" + end, api.ErrSyntax}.check(t)
		if end != "def" && end != "type" {
			failure{"module M " + definitions + "^" + end, api.ErrSyntax}.check(t)
		}
	}
	failure{"module M " + parameters + ", ^M.f", api.ErrSyntax}.check(t)
	failure{"module M " + parameters + ", ^1", api.ErrSyntax}.check(t)
	failure{"module M " + definitions + "^f", api.ErrSyntax}.check(t)
	for _, src := range []string{body + "f(" + arguments, body + "[" + items, "module M " + parameters} {
		failure{src, api.ErrSyntax}.check(t)
		failure{src + ", ", api.ErrSyntax}.check(t)
		failure{src + " ^def", api.ErrSyntax}.check(t)
	}
	for _, b := range []string{"1", "x", "x: Int", "f(1)"} { // no comma: nothing is one too many
		failure{body + "f(" + arguments + " ^" + b, api.ErrSyntax}.check(t)
		failure{body + "[" + items + " ^" + b, api.ErrSyntax}.check(t)
		failure{"module M " + parameters + " ^" + b, api.ErrSyntax}.check(t)
	}
}

func TestParseFirstErrorFromTheLeft(t *testing.T) {
	const body = "module M def f(): Int = "
	arguments, items := list(api.MaxParams, "1"), list(api.MaxItems, "1")
	failure{body + "[f(" + arguments + ", ^1), ]", api.ErrLong}.check(t)
	failure{body + "[f(^]), f(" + arguments + ", 1)]", api.ErrSyntax}.check(t)
	failure{body + "f([" + items + ", ^1], " + list(api.MaxParams, "1") + ")", api.ErrLong}.check(t)
	failure{body + "f(" + arguments + ", ^[" + items + ", 1])", api.ErrLong}.check(t)
	failure{body + "f(" + list(api.MaxParams, "["+items+"]") + ")+ ^)", api.ErrSyntax}.check(t)
	failure{"module M " + strings.Repeat("type A = Int ", api.MaxDefs-1) + "def f(): Int = ^def", api.ErrSyntax}.check(t)
	failure{"module M " + strings.Repeat("type A = Int ", api.MaxDefs-1) + "def f(): Int = f(" + arguments + ", ^1) def", api.ErrLong}.check(t)
}

// deep is a source whose tree has this many levels.
func deep(levels int) string {
	return "module M def f(): Int = " + strings.Repeat("(", levels-3) + "1" + strings.Repeat(")", levels-3)
}

func TestParseDepth(t *testing.T) {
	const body = "module M def f(): Int = "
	mustParse(t, deep(api.MaxDepth))
	sums := func(n int) string { return body + "1" + strings.Repeat(" + 1", n) }
	mustParse(t, sums(api.MaxDepth-3))
	lets := func(n int) string { return body + strings.Repeat("let x = 1 in ", n) + "1" }
	mustParse(t, lets(api.MaxDepth-3))
	calls := func(n int) string { return body + strings.Repeat("f(", n) + "1" + strings.Repeat(")", n) }
	mustParse(t, calls((api.MaxDepth-3)/2))
	types := func(n int) string {
		return "module M type A = " + strings.Repeat("[", n) + "Int" + strings.Repeat("]", n)
	}
	mustParse(t, types(api.MaxDepth-3))
	inParam := func(n int) string {
		return "module M def f(x: " + strings.Repeat("[", n) + "Int" + strings.Repeat("]", n) + "): Int = 1"
	}
	mustParse(t, inParam(api.MaxDepth-4))
	for _, src := range []string{
		deep(api.MaxDepth + 1), sums(api.MaxDepth - 2), lets(api.MaxDepth - 2), calls((api.MaxDepth-3)/2 + 1), types(api.MaxDepth - 2), inParam(api.MaxDepth - 3),
		deep(2000), sums(1000), lets(300), calls(1300), types(2000), inParam(2000), " #a\n" + deep(api.MaxDepth+1) + " def g(): Int = 1",
	} {
		failure{"^" + src, api.ErrDeep}.check(t)
	}
	tooDeep := deep(api.MaxDepth + 1)
	failure{tooDeep + "^)", api.ErrSyntax}.check(t)
	failure{tooDeep + " def f() ^= 1", api.ErrSyntax}.check(t)
	failure{tooDeep + " def f(): Int = [" + list(api.MaxItems, "1") + ", ^1]", api.ErrLong}.check(t)
	failure{tooDeep + " ^!", api.ErrSyntax}.check(t)
	failure{tooDeep + " #^\x00", api.ErrByte}.check(t)
	failure{body + strings.Repeat("(", 4000), api.ErrSyntax}.check(t)
}

func TestParseSharesNothing(t *testing.T) {
	src := "module M def f(x: Int, y: Int, z: Int): Int = f(1, 2, 3) + x + [1, 2, 3] def g(): Int = 1 type A = Int"
	tree := mustParse(t, src)
	before := clone(tree)
	capacity(tree)
	if !same(tree, before) {
		t.Error("R2: slices of a tree share memory")
	}
}
