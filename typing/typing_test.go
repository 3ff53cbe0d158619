package typing_test

import (
	"math"
	"slices"
	"strconv"
	"strings"
	"testing"

	"semvcs/api"
	"semvcs/syntax"
	"semvcs/typing"
)

func node(kind int, text string, kids ...api.Tree) api.Tree {
	return api.Tree{Kind: kind, Text: text, Kids: kids}
}

// program returns the trees of modules with their leads.
func program(t *testing.T, sources ...string) []api.Tree {
	t.Helper()
	var p []api.Tree
	for _, src := range sources {
		m, at, e := syntax.Parse(src)
		if e != api.OK {
			t.Fatalf("%q: error %d at %d", src, e, at)
		}
		p = append(p, m)
	}
	return p
}

// checkErrors checks the errors of a program: words as "type@0:1.2", the kind,
// the module and the path.
func checkErrors(t *testing.T, want string, sources ...string) {
	t.Helper()
	p := program(t, sources...)
	if got := show(typing.Errors(p)); got != want {
		t.Fatalf("P8.1: Errors of %q are %q, not %q", sources, got, want)
	}
	checkProgram(t, p)
}

func TestExamples(t *testing.T) {
	checkErrors(t, "unlike@0:0.1.1", `module M def f(): Int = 1 + "a"`)
	checkErrors(t, "count@0:0.2.2", `module M def f(x: Bool): Int = if x then 1 else f()`)
	checkErrors(t, "type@0:0.1 free@0:0.1.0", `module M def f(): Int = g() + "a"`)
}

// environment has what the expressions of TestExpressions refer to.
var environment = []string{
	`module N
def int(): Int = 1
def text(): N.Words = "a"
def far(x: Text, y: T): [T] = [y]
type T = [Int]
type C = C
type Words = Text
def round(x: C, y: Bool): C = x
def lost(x: Bool, y: None, z: Int): [None] = [y]
`,
	`module M
type T = Text
def of(x: T, y: N.T): [T] = [x]
def hole(): Bool = ?
def unknown(): N.C = N.round(?, true)
def no(x: Int): Int = x
`,
}

// checkExpression checks the type and the errors of an expression: the path of
// an error is that from the expression.
func checkExpression(t *testing.T, src, want, errors string) {
	t.Helper()
	l := slices.Clone(environment)
	l[1] += "def test(i: Int, t: Text, b: Bool, l: [T], u: N.C, i: Text): [Int] = let it =\n" + src + "\nin [1]"
	p := program(t, l...)
	at := []int{5, 7, 0}
	checkOf(t, p, api.Place{Module: 1, Path: at}, want)
	var got []string
	for _, x := range typing.Errors(p) {
		if x.At.Module == 1 && len(x.At.Path) >= 3 && slices.Equal(x.At.Path[:3], at) {
			x.At.Path = x.At.Path[3:]
			got = append(got, strings.Replace(showError(x), "1:", "", 1))
		} else if x.At.Module == 1 {
			t.Fatalf("P8.1: an error of %q is %s", src, showError(x))
		}
	}
	if s := strings.Join(got, " "); s != errors {
		t.Fatalf("P8.1: the errors of %q are %q, not %q", src, s, errors)
	}
	checkProgram(t, p)
}

type expression struct {
	src    string
	want   string // its type
	errors string
}

func checkExpressions(t *testing.T, l []expression) {
	t.Helper()
	for _, x := range l {
		checkExpression(t, x.src, x.want, x.errors)
	}
}

func TestTokens(t *testing.T) {
	checkExpressions(t, []expression{
		{"0", "Int", ""},
		{"123456789012345", "Int", ""},
		{`""`, "Text", ""},
		{`"1"`, "Text", ""},
		{"true", "Bool", ""},
		{"false", "Bool", ""},
		{"?", "", ""},
		{"(1)", "Int", ""},
		{`(("a"))`, "Text", ""},
		{"(?)", "", ""},
		{"(x)", "", "free@0"},
	})
}

func TestVariables(t *testing.T) {
	checkExpressions(t, []expression{
		{"i", "Int", ""},
		{"t", "Text", ""},
		{"b", "Bool", ""},
		{"l", "[Text]", ""},
		{"u", "", ""},
		{"x", "", "free@"},
		{"it", "", "free@"},
		{"of", "", "free@"},
		{"x + x", "", "free@0 free@1"},
		{"let i = t in i", "Text", ""},
		{"let i = i in i", "Int", ""},
		{"let i = (i) in let i = [i] in let i = [i] in i", "[[Int]]", ""},
		{"let x = let y = 1 in y in x + y", "Int", "free@1.1"},
		{"let x = x in x", "", "free@0"},
		{"let x = let x = 1 in [x] in x", "[Int]", ""},
		{"(let x = true in x) == x", "Bool", "free@1"},
		{"let x = 1 in true", "Bool", ""},
		{"let x = ? in x", "", ""},
		{"let x = 1 + true in x", "Int", "type@0.1"},
		{"let x = 1 + true in y", "", "type@0.1 free@1"},
		{`let x = 1 in let y = x - "a" in x * y + b`, "Int", `type@1.0.1 type@1.1.1`},
	})
}

func TestCalls(t *testing.T) {
	checkExpressions(t, []expression{
		{"hole()", "Bool", ""},
		{"M.hole()", "Bool", ""},
		{"N.int()", "Int", ""},
		{"unknown()", "", ""},
		{"int()", "", "free@"},
		{"N.hole()", "", "free@"},
		{"O.hole()", "", "free@"},
		{"i()", "", "free@"},
		{"none(1 + true, none(x))", "", "free@ type@0.0.1 free@1.0 free@1.0.0.0"},
		{`of("a", [1])`, "[Text]", ""},
		{`N.far("a", [1])`, "[[Int]]", ""},
		{`of(1, [1])`, "[Text]", "type@0.0"},
		{`of("a", ["a"])`, "[Text]", "type@1.0"},
		{`of("a", [[1]])`, "[Text]", "type@1.0"},
		{`of([1], "a")`, "[Text]", "type@0.0 type@1.0"},
		{`of(?, ?)`, "[Text]", ""},
		{`of([?], [?])`, "[Text]", ""},
		{`of(u, unknown())`, "[Text]", ""},
		{`of()`, "[Text]", "count@"},
		{`of(t)`, "[Text]", "count@"},
		{`of(i)`, "[Text]", "count@ type@0.0"},
		{`of(t, [1], 3)`, "[Text]", "count@"},
		{`of(t, t, x, 1 + true)`, "[Text]", "count@ type@1.0 free@2.0 type@3.0.1"},
		{"hole(1)", "Bool", "count@"},
		{"N.round(1, true)", "", ""},
		{"N.round(1, 2)", "", "type@1.0"},
		{"N.round(1, 2, 3)", "", "count@ type@1.0"},
		{"N.lost(1, 2, true)", "", "type@0.0 type@2.0"},
		{"N.lost(b, 2, i)", "", ""},
		{"no(no(no(1)))", "Int", ""},
		{"no(no(no(true)))", "Int", "type@0.0.0.0.0.0"},
		{"no(no(of(t, [1])))", "Int", "type@0.0.0.0"},
		{"no(N.text())", "Int", "type@0.0"},
		{"no(hole(1))", "Int", "count@0.0 type@0.0"},
		{"no(no() + hole(i, i))", "Int", "count@0.0.0 count@0.0.1 type@0.0.1"},
		{"no((hole(1)))", "Int", "type@0.0 count@0.0.0"},
		{"no(true == no(hole()))", "Int", "type@0.0 unlike@0.0.1 type@0.0.1.0.0"},
	})
}

func TestLists(t *testing.T) {
	checkExpressions(t, []expression{
		{"[1]", "[Int]", ""},
		{"[1, 2, i]", "[Int]", ""},
		{`[[["a"]]]`, "[[[Text]]]", ""},
		{"[?]", "", ""},
		{"[?, u, [?], x]", "", "free@3"},
		{"[?, true]", "[Bool]", ""},
		{"[?, true, ?, 1]", "[Bool]", "unlike@3"},
		{"[x, 1, true]", "[Int]", "free@0 unlike@2"},
		{`[1, "a", 2, true, [1]]`, "[Int]", "unlike@1 unlike@3 unlike@4"},
		{`["a", 1, 1]`, "[Text]", "unlike@1 unlike@2"},
		{"[[1], [true]]", "[[Int]]", "unlike@1"},
		{"[[?], [true], [1]]", "[[Bool]]", "unlike@2"},
		{"[[1, true], [1]]", "[[Int]]", "unlike@0.1"},
		{"[[1], [[1]], 1]", "[[Int]]", "unlike@1 unlike@2"},
		{"[1, hole(1)]", "[Int]", "count@1 unlike@1"},
		{"[1, 1 < true]", "[Int]", "unlike@1 type@1.1"},
	})
}

func TestChoices(t *testing.T) {
	checkExpressions(t, []expression{
		{"if b then 1 else 2", "Int", ""},
		{"if ? then 1 else i", "Int", ""},
		{"if u then 1 else i", "Int", ""},
		{"if 1 then 1 else 2", "Int", "type@0"},
		{"if [b] then t else t", "Text", "type@0"},
		{"if b then 1 else t", "Int", "unlike@2"},
		{"if b then t else 1", "Text", "unlike@2"},
		{"if b then ? else t", "Text", ""},
		{"if b then t else ?", "Text", ""},
		{"if b then ? else ?", "", ""},
		{"if x then y else z", "", "free@0 free@1 free@2"},
		{"if t then 1 else if 1 then t else 2", "Int", "type@0 unlike@2 type@2.0 unlike@2.2"},
		{"if i < 1 then [?] else [[1]]", "[[Int]]", ""},
		{"if b then [[true]] else [[1]]", "[[Bool]]", "unlike@2"},
		{"if (if b then 1 else b) then 1 else b", "Int", "type@0 unlike@0.0.2 unlike@2"},
	})
}

func TestLets(t *testing.T) {
	checkExpressions(t, []expression{
		{"let x = 1 in x", "Int", ""},
		{"let x = 1 in ?", "", ""},
		{"let x = true in [x, 1]", "[Bool]", "unlike@1.1"},
		{`let x = [1] in let y = [x] in [y, x]`, "[[[Int]]]", "unlike@1.1.1"},
		{"(let x = 1 in x) + true", "Int", "type@1"},
		{"let x = 1 in let x = x == x in if x then x else 1", "Bool", "unlike@1.1.2"},
	})
}

func TestSums(t *testing.T) {
	checkExpressions(t, []expression{
		{"1 + 2", "Int", ""},
		{`"a" + t`, "Text", ""},
		{`1 + "a"`, "Int", "unlike@1"},
		{`"a" + 1`, "Text", "unlike@1"},
		{"1 + ?", "Int", ""},
		{"? + 1", "Int", ""},
		{`? + "a"`, "Text", ""},
		{`"a" + ?`, "Text", ""},
		{"? + ?", "", ""},
		{"true + 1", "Int", "type@0"},
		{`true + "a"`, "Text", "type@0"},
		{"1 + true", "Int", "type@1"},
		{`"a" + [1]`, "Text", "type@1"},
		{"true + true", "", "type@0 type@1"},
		{"[1] + true", "", "type@0 type@1"},
		{"[1] + [1]", "", "type@0 type@1"},
		{`["a"] + ?`, "", "type@0"},
		{"? + b", "", "type@1"},
		{"x + b", "", "free@0 type@1"},
		{"b + x", "", "type@0 free@1"},
		{`1 + "a" + 2`, "Int", "unlike@0.1"},
		{`1 + "a" + "b"`, "Int", "unlike@0.1 unlike@1"},
		{`true + "a" + "b"`, "Text", "type@0.0"},
		{`? + 1 + "b"`, "Int", "unlike@1"},
		{"(true + false) + 1", "Int", "type@0.0.0 type@0.0.1"},
		{"hole(1) + hole(1)", "", "count@0 type@0 count@1 type@1"},
		{"1 + N.far(t)", "Int", "count@1 type@1"},
		{"i + of(t)", "Int", "count@1 type@1"},
		{"t + no()", "Text", "count@1 unlike@1"},
	})
}

func TestOtherOperations(t *testing.T) {
	checkExpressions(t, []expression{
		{"1 - 2", "Int", ""},
		{"1 * i", "Int", ""},
		{"1 < 2", "Bool", ""},
		{"1 == 2", "Bool", ""},
		{"? - ?", "Int", ""},
		{"? * ?", "Int", ""},
		{"? < ?", "Bool", ""},
		{"? == ?", "Bool", ""},
		{"t - t", "Int", "type@0 type@1"},
		{"t - 1", "Int", "type@0"},
		{"1 - b", "Int", "type@1"},
		{"t * l", "Int", "type@0 type@1"},
		{"1 * l", "Int", "type@1"},
		{"? * [?]", "Int", ""},
		{"? * [1]", "Int", "type@1"},
		{"t < t", "Bool", "type@0 type@1"},
		{"b < 1", "Bool", "type@0"},
		{"1 < [1]", "Bool", "type@1"},
		{"1 < x", "Bool", "free@1"},
		{"t == t", "Bool", ""},
		{"b == b", "Bool", ""},
		{"l == [t]", "Bool", ""},
		{"[[1]] == [[?]]", "Bool", ""},
		{"1 == t", "Bool", "unlike@1"},
		{"[1] == 1", "Bool", "unlike@1"},
		{"[1] == [b]", "Bool", "unlike@1"},
		{"x == y", "Bool", "free@0 free@1"},
		{"t == 1 == 1", "Bool", "unlike@0.1 unlike@1"},
		{"t == 1 == b", "Bool", "unlike@0.1"},
		{"1 < 2 < 3", "Bool", "type@0"},
		{"1 + 2 * t - b", "Int", "type@0.1 type@1"},
		{"b == no(1, 2)", "Bool", "count@1 unlike@1"},
		{"1 * hole(2)", "Int", "count@1 type@1"},
	})
}

// TestDefinitions has errors of definitions, and uses of such ones.
func TestDefinitions(t *testing.T) {
	for _, x := range []struct {
		want    string
		sources []string
	}{
		{"", nil},
		{"", []string{"module M"}},
		{"", []string{"module M def f(): Int = 1"}},
		{"", []string{"module M def f(): Int = ?"}},
		{"type@0:0.1", []string{"module M def f(): Int = true"}},
		{"type@0:0.1", []string{"module M def f(): [Int] = 1"}},
		{"type@0:0.1", []string{"module M def f(): [Int] = [[1]]"}},
		{"type@0:1.1 count@0:1.1.0", []string{"module M def f(x: Int): Bool = true def g(): Int = (f())"}},
		{"count@0:1.1 type@0:1.1", []string{"module M def f(x: Int): Bool = true def g(): Int = f()"}},
		{"type@0:0.1 unlike@0:0.1.1", []string{`module M def f(): Text = 1 + "a"`}},
		{"free@0:0.1", []string{"module M def f(): Int = x"}},
		{"free@0:0.0", []string{"module M def f(): T = 1"}},
		{"free@0:0.0.0.0", []string{"module M def f(): [[M.T]] = 1"}},
		{"free@0:0.0.0 free@0:0.1.0.0 free@0:0.2.0", []string{"module M def f(x: T, y: [N.T]): [O.T] = x", "module N"}},
		{"free@0:0.0", []string{"module M type T = U"}},
		{"free@0:0.0.0", []string{"module M type T = [M]"}},
		{"free@0:0.0 type@0:2.1.0", []string{"module M type T = U def f(x: T): T = 1 def g(): Int = true + f(true)"}},
		{"free@0:0.0 unlike@0:1.2.2", []string{"module M type T = U def f(x: [T]): [T] = [x, 1, true]"}},
		{"cycle@0:0", []string{"module M type T = T"}},
		{"cycle@0:0", []string{"module M type T = [[M.T]]"}},
		{"cycle@0:0 cycle@0:1", []string{"module M type T = [U] type U = T"}},
		{"cycle@0:1", []string{"module M type T = [U] type U = U"}},
		{"free@0:0.0 cycle@0:1 free@0:2.0", []string{"module M type T = V type U = U type W = V"}},
		{"cycle@0:0 cycle@1:0 cycle@1:1", []string{"module M type T = [N.T]", "module N type V = [M.T] type T = [V]"}},
		{"", []string{"module M type T = Int type T = T"}},
		{"cycle@0:0 type@0:3.1", []string{"module M type T = T type T = Int def f(x: T): T = 1 def g(): Text = f(true) == 1"}},
	} {
		checkErrors(t, x.want, x.sources...)
	}
}

// TestOf has all nodes of a program.
func TestOf(t *testing.T) {
	p := program(t, `module A
type T = [ # comment
 [B.U] ] type V = V
def f(x: T, y: V): A.T =
	let z = [ x, ? ] in g( z ,(y), q) # comment
def g(x: [T], y: B.U): [Int] = if ? == 1 then y else [2]
`, "module B type U = Int")
	for at, want := range map[string]string{
		"2.3":         "[Int]",
		"2.3.0":       "[[[Int]]]",
		"2.3.0.0":     "[[Int]]",
		"2.3.0.1":     "",
		"2.3.1":       "[Int]",
		"2.3.1.0.0":   "[[[Int]]]",
		"2.3.1.1.0":   "",
		"2.3.1.1.0.0": "",
		"2.3.1.2.0":   "",
		"3.3":         "Int",
		"3.3.0":       "Bool",
		"3.3.0.0":     "",
		"3.3.0.1":     "Int",
		"3.3.1":       "Int",
		"3.3.2":       "[Int]",
		"3.3.2.0":     "Int",
		"":            "arg",
		"0":           "arg",
		"0.0":         "arg",
		"0.0.0":       "arg",
		"0.0.0.0":     "arg",
		"2":           "arg",
		"2.0":         "arg",
		"2.0.0":       "arg",
		"2.2":         "arg",
		"2.3.1.0":     "arg",
		"2.3.1.1":     "arg",
		"2.3.1.3":     "arg",
		"2.3.2":       "arg",
		"2.3.0.0.0":   "arg",
		"4":           "arg",
	} {
		checkOf(t, p, api.Place{Path: path(t, at)}, want)
	}
	checkErrors(t, "cycle@0:1 type@0:2.3 count@0:2.3.1 free@0:2.3.1.2.0 type@0:3.3 unlike@0:3.3.2", sources(p)...)
}

// path returns the path that a text with dots says.
func path(t *testing.T, s string) []int {
	t.Helper()
	var l []int
	for _, word := range strings.FieldsFunc(s, func(r rune) bool { return r == '.' }) {
		i, err := strconv.Atoi(word)
		if err != nil {
			t.Fatal(err)
		}
		l = append(l, i)
	}
	return l
}

// TestModules has places in several modules, and in none.
func TestModules(t *testing.T) {
	p := program(t, "module A def f(): Text = B.f()", "module B def f(): Int = f()", `module B def f(): Bool = f()`)
	for m, want := range []string{"Int", "Int", "Bool"} {
		checkOf(t, p, api.Place{Module: m, Path: []int{0, 1}}, want)
	}
	for _, m := range []int{-1, 3, 4, math.MaxInt, math.MinInt} {
		checkOf(t, p, api.Place{Module: m, Path: []int{0, 1}}, "arg")
	}
	for _, at := range [][]int{{-1}, {0, -1}, {1, 1}, {math.MaxInt, 1}, {0, math.MinInt}, {0, 1, 0}, {0, 1, -1}} {
		checkOf(t, p, api.Place{Path: at}, "arg")
	}
	checkErrors(t, "type@0:0.1", sources(p)...)
	checkErrors(t, "free@0:0.1.0 free@1:0.1.0", "module A def f(): Int = (B.g())", "module B def h(): Int = (A.g())")
}

// TestNoPrograms has lists that are not programs.
func TestNoPrograms(t *testing.T) {
	good := program(t, "module M type T = T def f(): T = x + true")[0]
	body := func(x api.Tree) api.Tree {
		return node(api.Module, "M", node(api.Func, "f", node(api.TInt, ""), x))
	}
	for _, bad := range []api.Tree{
		{},
		{Kind: api.Module},
		{Kind: -1, Text: "M"},
		{Kind: api.Paren + 1, Text: "M"},
		node(api.Module, "m"),
		node(api.Module, "M", node(api.Hole, "")),
		good.Kids[0],
		good.Kids[1],
		good.Kids[1].Kids[1],
		node(api.Module, "M", node(api.Func, "f", node(api.TInt, ""))),
		node(api.Module, "M", node(api.Func, "f", node(api.Hole, ""))),
		node(api.Module, "M", node(api.Func, "f")),
		node(api.Module, "M", node(api.Alias, "T")),
		node(api.Module, "M", node(api.Alias, "T", node(api.TList, ""))),
		node(api.Module, "M", node(api.Alias, "T", node(api.TName, "t"))),
		body(node(api.List, "")),
		body(node(api.Arg, "", node(api.Hole, ""))),
		body(node(api.Call, "f", node(api.Hole, ""))),
		body(node(api.Call, "F")),
		body(node(api.Num, "x")),
		body(node(api.If, "", node(api.True, ""), node(api.True, ""))),
		body(node(api.Let, "x", node(api.True, ""))),
		body(node(api.Bin, "/", node(api.True, ""), node(api.True, ""))),
		body(node(api.Bin, "+", node(api.True, ""))),
		body(node(api.Bin, "+", node(api.True, ""), node(api.Bin, "+", node(api.True, ""), node(api.True, "")))),
		body(node(api.Paren, "")),
		body(node(api.TInt, "")),
	} {
		checkNothing(t, []api.Tree{bad})
		checkNothing(t, []api.Tree{good, bad})
		checkNothing(t, []api.Tree{bad, good})
	}
}
