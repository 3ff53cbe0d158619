package eval_test

import (
	"fmt"
	"math"
	"slices"
	"strings"
	"testing"

	"semvcs/api"
	"semvcs/eval"
	"semvcs/syntax"
)

func node(kind int, text string, kids ...api.Tree) api.Tree {
	return api.Tree{Kind: kind, Text: text, Kids: kids}
}

// program returns the trees of modules with their leads.
func program(t *testing.T, sources ...string) []api.Tree {
	t.Helper()
	var p []api.Tree
	for _, src := range sources {
		m, at, e := syntax.Parse(src)
		if e != api.OK {
			t.Fatalf("%q: error %d at %d", src, e, at)
		}
		p = append(p, m)
	}
	return p
}

// checkShown checks the text of the outcome of a run, without the judge.
func checkShown(t *testing.T, p []api.Tree, module, def int, args []api.Datum, fuel int, want string) {
	t.Helper()
	var got outcome
	got.value, got.used, got.e = eval.Run(p, module, def, args, fuel)
	if got.shown() != want {
		t.Errorf("P9.2: the run of %d %d with %d args and fuel %d is %s, not %s", module, def, len(args), fuel, got.shown(), want)
	}
}

func TestExamples(t *testing.T) {
	p := program(t, "module M def f(n: Int): Int = if n < 1 then 0 else n + f(n - 1)")
	checkShown(t, p, 0, 0, data(num(2)), 100, "3 used 25")
	checkShown(t, p, 0, 0, data(num(2)), 25, "3 used 25")
	checkShown(t, p, 0, 0, data(num(2)), 24, "fuel used 24")
	checkShown(t, p, 0, 0, data(num(2)), 5, "fuel used 5")
	checkShown(t, p, 0, 0, data(num(2)), 0, "fuel used 0")
	checkShown(t, p, 0, 0, data(str("a")), 100, "type used 4")
	checkShown(t, p, 0, 0, data(str("a")), 4, "type used 4")
	checkShown(t, p, 0, 0, data(str("a")), 3, "fuel used 3")
	checkRun(t, p, 0, 0, data(num(2)), 100)
	checkRun(t, p, 0, 0, data(str("a")), 100)
}

// environment has what the expressions of checkCases refer to.
var environment = []string{
	`module N
def one(): Int = 1
def hole(): Int = ?
def same(x: Int): Int = x
def first(x: Int, y: Int): Int = x
def double(x: Int, x: Int): Int = x
def private(): Text = local()
def local(): Text = "N"
def outer(): Text = M.local()
def free(): Int = x
def loop(): Int = loop()
type T = Int
`,
	`module M
def local(): Text = "M"
def hidden(x: Int): Int = N.free()
def sum(n: Int): Int = if n < 1 then 0 else n + sum(n - 1)
def even(n: Int): Bool = if n == 0 then true else M.odd(n - 1)
def odd(n: Int): Bool = if n == 0 then false else even(n - 1)
def twice(s: Text): Text = s + s
def local(): Text = "second"
`,
	`module N
def same(x: Int): Int = 2
def late(): Int = 2
`,
}

// body is that of a function whose parameters are a, b, c and so on.
type body struct {
	src  string
	args []api.Datum
	want string // the outcome as a text
}

// checkBodies runs functions with these bodies.
func checkBodies(t *testing.T, l []body) {
	t.Helper()
	for _, x := range l {
		var names []string
		for i := range x.args {
			names = append(names, string(rune('a'+i))+": Bool")
		}
		sources := slices.Clone(environment)
		sources[1] += "def test(" + strings.Join(names, ", ") + "): Text = " + x.src
		p := program(t, sources...)
		def := len(p[1].Kids) - 1
		checkShown(t, p, 1, def, x.args, 1000, x.want)
		checkRun(t, p, 1, def, x.args, 1000)
	}
}

func TestTokens(t *testing.T) {
	checkBodies(t, []body{
		{"0", nil, "0 used 1"},
		{"7", nil, "7 used 1"},
		{"999999999999999", nil, "999999999999999 used 1"},
		{`""`, nil, `"" used 1`},
		{`"a"`, nil, `"a" used 1`},
		{`" #1 "`, nil, `" #1 " used 1`},
		{"true", nil, "true used 1"},
		{"false", nil, "false used 1"},
		{"?", nil, "none used 1"},
		{"(7)", nil, "7 used 2"},
		{`((("a")))`, nil, `"a" used 4`},
		{"(?)", nil, "none used 2"},
		{"x", nil, "none used 1"},
		{"(x)", nil, "none used 2"},
	})
}

func TestVariables(t *testing.T) {
	deep := list(list(), list(num(-1), str("b"), truth(true)))
	checkBodies(t, []body{
		{"a", data(num(math.MinInt64)), "-9223372036854775808 used 1"},
		{"a", data(str("a\n\x00\xff\"")), `"a\n\x00\xff\"" used 1`},
		{"a", data(truth(false)), "false used 1"},
		{"a", data(deep), `[[], [-1, "b", true]] used 1`},
		{"a", data(list()), "[] used 1"},
		{"[a, a]", data(deep), `[[[], [-1, "b", true]], [[], [-1, "b", true]]] used 3`},
		{"b", data(num(1), num(2), num(3)), "2 used 1"},
		{"[c, b, a]", data(num(1), num(2), num(3)), "[3, 2, 1] used 4"},
		{"d", data(num(1), num(2), num(3)), "none used 1"},
		{"test", nil, "none used 1"},
	})
}

func TestLets(t *testing.T) {
	checkBodies(t, []body{
		{"let x = 1 in x", nil, "1 used 3"},
		{"let x = 1 in 2", nil, "2 used 3"},
		{"let x = 1 in y", nil, "none used 3"},
		{"let x = x in 1", nil, "none used 2"},
		{"let a = a in a", data(num(5)), "5 used 3"},
		{"let a = [a] in [a]", data(num(5)), "[[5]] used 5"},
		{"let x = let x = 1 in [x] in [x, 2]", nil, "[[1], 2] used 8"},
		{"let x = let y = 1 in y in y", nil, "none used 5"},
		{"let x = 1 in let x = 2 in x", nil, "2 used 5"},
		{"let x = 1 in let y = 2 in [x, y]", nil, "[1, 2] used 7"},
		{"[let x = 1 in x, x]", nil, "none used 5"},
		{"(let x = 1 in x) + x", nil, "none used 6"},
		{"let x = 1 in (let x = 2 in x) + x", nil, "3 used 8"},
		{"let a = 7 in [a, b]", data(num(1), num(2)), "[7, 2] used 5"},
		{"let x = ? in 1", nil, "none used 2"},
		{"let x = 1 in ?", nil, "none used 3"},
		{"let x = 1 + true in ?", nil, "type used 4"},
		{"let x = 1 in N.free()", nil, "none used 4"},
		{"let x = 1 in N.same(x)", nil, "1 used 5"},
	})
}

func TestIfs(t *testing.T) {
	checkBodies(t, []body{
		{"if true then 1 else 2", nil, "1 used 3"},
		{"if false then 1 else 2", nil, "2 used 3"},
		{`if true then 1 else "a" + 1`, nil, "1 used 3"},
		{`if false then ? else "a"`, nil, `"a" used 3`},
		{"if a then N.loop() else x", data(truth(false)), "none used 3"},
		{"if a then 1 else 2", data(truth(true)), "1 used 3"},
		{"if 1 then 1 else 2", nil, "type used 2"},
		{"if 0 then 1 else 2", nil, "type used 2"},
		{`if "true" then 1 else 2`, nil, "type used 2"},
		{"if [true] then 1 else 2", nil, "type used 3"},
		{"if a then 1 else 2", data(list()), "type used 2"},
		{"if ? then 1 else 2", nil, "none used 2"},
		{"if 1 < 2 then [if false then 1 else 2] else 3", nil, "[2] used 8"},
	})
}

func TestLists(t *testing.T) {
	checkBodies(t, []body{
		{"[1]", nil, "[1] used 2"},
		{`[1, "a", true]`, nil, `[1, "a", true] used 4`},
		{"[[[1]], [2]]", nil, "[[[1]], [2]] used 6"},
		{"[1, ?, 2]", nil, "none used 3"},
		{"[1, 1 + true, ?]", nil, "type used 5"},
		{"[?, 1 + true]", nil, "none used 2"},
		{"[1, 2, 3, 4, 5, 6, 7, 8, 9, 10, 11, 12, 13, 14, 15, 16]", nil, "[1, 2, 3, 4, 5, 6, 7, 8, 9, 10, 11, 12, 13, 14, 15, 16] used 17"},
	})
}

func TestIntegers(t *testing.T) {
	least, most := int64(math.MinInt64), int64(math.MaxInt64)
	product := int64(999999999999999)
	product *= product
	checkBodies(t, []body{
		{"1 + 2", nil, "3 used 3"},
		{"1 - 2", nil, "-1 used 3"},
		{"3 * 4", nil, "12 used 3"},
		{"1 + 2 * 3", nil, "9 used 5"},
		{"10 - 2 - 3", nil, "5 used 5"},
		{"10 - (2 - 3)", nil, "11 used 6"},
		{"1 < 2", nil, "true used 3"},
		{"2 < 1", nil, "false used 3"},
		{"2 < 2", nil, "false used 3"},
		{"a + b", data(num(most), num(1)), "-9223372036854775808 used 3"},
		{"a + b", data(num(least), num(-1)), "9223372036854775807 used 3"},
		{"a - b", data(num(least), num(1)), "9223372036854775807 used 3"},
		{"a - b", data(num(0), num(least)), "-9223372036854775808 used 3"},
		{"a * b", data(num(least), num(-1)), "-9223372036854775808 used 3"},
		{"a * b", data(num(most), num(2)), "-2 used 3"},
		{"a * b", data(num(1<<32), num(1<<32)), "0 used 3"},
		{"999999999999999 * 999999999999999", nil, fmt.Sprint(product, " used 3")},
		{"a < b", data(num(least), num(most)), "true used 3"},
		{"a < b", data(num(most), num(least)), "false used 3"},
		{"a < b", data(num(-1), num(0)), "true used 3"},
		{"a == b", data(num(least), num(least)), "true used 3"},
		{"a == b", data(num(least), num(0)), "false used 3"},
	})
}

func TestTexts(t *testing.T) {
	checkBodies(t, []body{
		{`"a" + "b"`, nil, `"ab" used 3`},
		{`"a" + "b" + "c"`, nil, `"abc" used 5`},
		{`"" + ""`, nil, `"" used 3`},
		{`a + b`, data(str("\xff"), str("\"")), `"\xff\"" used 3`},
		{`"a" == "a"`, nil, "true used 3"},
		{`"a" == "A"`, nil, "false used 3"},
		{`"a" == "aa"`, nil, "false used 3"},
		{`"1" == "1 "`, nil, "false used 3"},
	})
}

func TestEquations(t *testing.T) {
	checkBodies(t, []body{
		{"1 == 1", nil, "true used 3"},
		{"1 == 2", nil, "false used 3"},
		{"true == true", nil, "true used 3"},
		{"true == false", nil, "false used 3"},
		{"false == false", nil, "true used 3"},
		{"[1] == [1]", nil, "true used 5"},
		{"[1] == [2]", nil, "false used 5"},
		{"[1] == [1, 1]", nil, "false used 6"},
		{"[1, 2] == [2, 1]", nil, "false used 7"},
		{`[1] == ["a"]`, nil, "false used 5"},
		{"[0] == [false]", nil, "false used 5"},
		{"[[1], [2]] == [[1], [2]]", nil, "true used 11"},
		{"[[1], [2]] == [[1], [3]]", nil, "false used 11"},
		{"a == b", data(list(), list()), "true used 3"},
		{"a == b", data(list(), api.Datum{Kind: api.DList, L: []api.Datum{}}), "true used 3"},
		{"[a] == [b]", data(api.Datum{Kind: api.DList, L: []api.Datum{}}, list()), "true used 5"},
		{"a == [b]", data(list(), list()), "false used 4"},
		{"1 == 1 == true", nil, "true used 5"},
	})
}

// TestOperands has all operators with operands of all kinds.
func TestOperands(t *testing.T) {
	operands := data(num(0), str(""), truth(false), list())
	right := map[string]string{
		"+ 1 1": "0", "+ 2 2": `""`, "- 1 1": "0", "* 1 1": "0", "< 1 1": "false",
		"== 1 1": "true", "== 2 2": "true", "== 3 3": "true", "== 4 4": "true",
	}
	for _, sign := range []string{"+", "-", "*", "<", "=="} {
		for _, a := range operands {
			for _, b := range operands {
				want := right[fmt.Sprint(sign, " ", a.Kind, " ", b.Kind)]
				if want == "" {
					want = "type"
				}
				checkBodies(t, []body{{"a " + sign + " b", data(a, b), want + " used 3"}})
			}
		}
		checkBodies(t, []body{
			{"? " + sign + " (1 + true)", nil, "none used 2"},
			{"(1 + true) " + sign + " ?", nil, "type used 5"},
			{"true " + sign + " x", nil, "none used 3"},
		})
	}
}

func TestCalls(t *testing.T) {
	checkBodies(t, []body{
		{"local()", nil, `"M" used 2`},
		{"M.local()", nil, `"M" used 2`},
		{"N.local()", nil, `"N" used 2`},
		{"N.private()", nil, `"N" used 3`},
		{"N.outer()", nil, `"M" used 3`},
		{"N.one() + N.one()", nil, "2 used 5"},
		{"N.same(7)", nil, "7 used 3"},
		{"N.first(1, 2)", nil, "1 used 4"},
		{"N.double(1, 2)", nil, "1 used 4"},
		{`N.same([twice("a"), twice(twice("b"))])`, nil, `["aa", "bbbb"] used 17`},
		{"sum(3)", nil, "6 used 37"},
		{"even(2)", nil, "true used 23"},
		{"odd(2)", nil, "false used 23"},
		{"test()", nil, "fuel used 1000"},
		{"N.loop()", nil, "fuel used 1000"},
		{"[N.loop()]", nil, "fuel used 1000"},
		{"hidden(1)", nil, "none used 4"},
		{"let a = 1 in N.free()", data(num(1)), "none used 4"},
		{"N.hole()", nil, "none used 2"},
		{"N.late()", nil, "none used 1"},
		{"one()", nil, "none used 1"},
		{"none()", nil, "none used 1"},
		{"N.none()", nil, "none used 1"},
		{"L.one()", nil, "none used 1"},
		{"none(1, 2)", nil, "none used 3"},
		{"none(1 + true)", nil, "type used 4"},
		{"none(1, ?)", nil, "none used 3"},
		{"N.same()", nil, "arg used 1"},
		{"N.same(1, 2)", nil, "arg used 3"},
		{"N.one(1)", nil, "arg used 2"},
		{"N.first(1)", nil, "arg used 2"},
		{"N.one(?)", nil, "none used 2"},
		{"N.one(1 + true)", nil, "type used 4"},
		{"N.first(N.same(), ?)", nil, "arg used 2"},
		{"[N.same(), 1 + true]", nil, "arg used 2"},
		{"let a = 5 in N.same(a) + a", data(num(1)), "10 used 7"},
		{"N.first(a, let a = 5 in a) + a", data(num(1)), "2 used 8"},
	})
}

// TestWrongArguments has runs that do not begin.
func TestWrongArguments(t *testing.T) {
	p := program(t, "module M type T = Int def f(x: Int): Int = x def g(): Int = 1", "module N def f(): Int = 2 def g(): Int = ?")
	for _, x := range []struct {
		module, def, args, fuel int
		want                    string
	}{
		{0, 1, 1, 9, "0 used 1"},
		{0, 2, 0, 9, "1 used 1"},
		{1, 0, 0, 9, "2 used 1"},
		{1, 1, 0, 9, "none used 1"},
		{0, 0, 0, 9, "arg used 0"},
		{0, 0, 1, 9, "arg used 0"},
		{0, 1, 0, 9, "arg used 0"},
		{0, 1, 2, 9, "arg used 0"},
		{0, 2, 1, 9, "arg used 0"},
		{1, 1, 1, 9, "arg used 0"},
		{0, -1, 0, 9, "arg used 0"},
		{0, -1, 1, 9, "arg used 0"},
		{0, 3, 0, 9, "arg used 0"},
		{0, math.MaxInt, 0, 9, "arg used 0"},
		{0, math.MinInt, 0, 9, "arg used 0"},
		{-1, 0, 0, 9, "arg used 0"},
		{-1, 1, 1, 9, "arg used 0"},
		{2, 0, 0, 9, "arg used 0"},
		{math.MaxInt, 1, 1, 9, "arg used 0"},
		{math.MinInt, 1, 1, 9, "arg used 0"},
		{0, 2, 0, 0, "fuel used 0"},
		{0, 2, 0, -1, "arg used 0"},
		{0, 2, 0, math.MinInt, "arg used 0"},
		{0, 2, 0, 1, "1 used 1"},
		{0, 2, 0, api.MaxFuel, "1 used 1"},
		{0, 2, 0, api.MaxFuel + 1, "arg used 0"},
		{0, 2, 0, math.MaxInt, "arg used 0"},
		{0, 1, 0, 0, "arg used 0"},
		{1, 1, 0, -1, "arg used 0"},
	} {
		args := slices.Repeat(data(num(0)), x.args)
		checkShown(t, p, x.module, x.def, args, x.fuel, x.want)
		checkRun(t, p, x.module, x.def, args, x.fuel)
	}
}

// TestWrongData has arguments that are not valid.
func TestWrongData(t *testing.T) {
	p := program(t, "module M def f(x: Int, y: Int): Int = y")
	for _, d := range wrongData() {
		for _, args := range [][]api.Datum{{d, num(1)}, {num(1), d}, {d, d}, {list(num(1), d), num(2)}} {
			checkShown(t, p, 0, 0, args, 9, "arg used 0")
			checkShown(t, p, 0, 0, args, 0, "arg used 0")
		}
		checkShown(t, p, 0, 0, data(d), 9, "arg used 0")
		checkRun(t, p, 0, 0, data(num(1), d), 9)
	}
	for _, d := range rightData() {
		want := outcome{d, 1, api.OK}.shown()
		checkShown(t, p, 0, 0, data(num(1), d), 9, want)
		checkShown(t, p, 0, 0, data(d, d), 1, want)
		checkRun(t, p, 0, 0, data(d, d), 9)
	}
}

// TestNoPrograms has lists that are no programs.
func TestNoPrograms(t *testing.T) {
	f := node(api.Func, "f", node(api.TInt, ""), node(api.Num, "1"))
	m := node(api.Module, "M", f)
	checkShown(t, []api.Tree{m}, 0, 0, nil, 9, "1 used 1")
	for _, x := range []api.Tree{
		{},
		f,
		node(api.Module, "m", f),
		node(api.Module, "", f),
		node(api.Module, "M", f, node(api.Param, "x", node(api.TInt, ""))),
		node(api.Module, "M", f, node(api.Func, "g", node(api.TInt, ""))),
		node(api.Module, "M", f, node(api.Func, "g", node(api.TInt, ""), node(api.Num, "x"))),
		node(api.Module, "M", f, node(api.Func, "g", node(api.TInt, ""), node(api.Num, "01"))),
		node(api.Module, "M", f, node(api.Func, "g", node(api.TInt, ""), node(api.List, ""))),
		node(api.Module, "M", f, node(api.Func, "g", node(api.TInt, ""), node(api.Str, "a"))),
		node(api.Module, "M", f, node(api.Func, "g", node(api.TInt, ""), node(api.Call, "M.F"))),
		node(api.Module, "M", f, node(api.Alias, "T")),
		node(api.Num, "1"),
	} {
		for _, p := range [][]api.Tree{{x}, {m, x}, {x, m}} {
			for module := range p {
				checkShown(t, p, module, 0, nil, 9, "arg used 0")
			}
			checkRun(t, p, 0, 0, nil, 9)
		}
	}
	checkShown(t, nil, 0, 0, nil, 9, "arg used 0")
	checkShown(t, []api.Tree{node(api.Module, "M")}, 0, 0, nil, 9, "arg used 0")
}

// rightData are valid data of all kinds.
func rightData() []api.Datum {
	return data(
		num(0), num(1), num(-1), num(2), num(math.MaxInt64), num(math.MinInt64),
		str(""), str("a"), str("1"), str("\x00"), str("\"\n\xff"), str(strings.Repeat("a", api.MaxWeight-1)),
		truth(true), truth(false),
		list(), api.Datum{Kind: api.DList, L: []api.Datum{}}, list(num(1)), list(num(1), str("a"), truth(true), list()), list(list(list())),
		list(slices.Repeat(data(num(5)), api.MaxWeight-1)...),
		list(str(strings.Repeat("b", api.MaxWeight-3)), num(1)),
		api.Datum{Kind: api.DInt, N: 1, L: []api.Datum{}},
	)
}

// wrongData are data that are not valid.
func wrongData() []api.Datum {
	one := data(num(1))
	l := data(
		api.Datum{},
		api.Datum{N: 1}, api.Datum{Kind: 5}, api.Datum{Kind: -1}, api.Datum{Kind: math.MaxInt, N: 1}, api.Datum{Kind: 5, L: one},
		api.Datum{Kind: api.DInt, S: "a"}, api.Datum{Kind: api.DInt, L: one}, api.Datum{Kind: api.DInt, N: 1, S: "1"},
		api.Datum{Kind: api.DText, N: 1}, api.Datum{Kind: api.DText, S: "a", N: -1}, api.Datum{Kind: api.DText, S: "a", L: one},
		api.Datum{Kind: api.DBool, N: 2}, api.Datum{Kind: api.DBool, N: -1}, api.Datum{Kind: api.DBool, N: math.MinInt64}, api.Datum{Kind: api.DBool, N: 1, S: "a"}, api.Datum{Kind: api.DBool, L: one},
		api.Datum{Kind: api.DBool, N: 1 << 32},
		api.Datum{Kind: api.DList, N: 1}, api.Datum{Kind: api.DList, S: "a"}, api.Datum{Kind: api.DList, N: 1, L: one}, api.Datum{Kind: api.DList, S: "a", L: one},
		list(api.Datum{}), list(num(1), api.Datum{Kind: api.DBool, N: 2}), list(list(list(api.Datum{Kind: api.DInt, S: "a"}))), list(api.Datum{Kind: api.DText, N: 1}, num(1)),
		str(strings.Repeat("a", api.MaxWeight)), str(strings.Repeat("a", 3*api.MaxWeight)),
		list(slices.Repeat(one, api.MaxWeight)...), list(slices.Repeat(one, 5*api.MaxWeight)...),
		list(str(strings.Repeat("b", api.MaxWeight-2)), num(1)), list(num(1), str(strings.Repeat("b", api.MaxWeight-2))),
		list(str(strings.Repeat("b", api.MaxWeight-1))),
	)
	return l
}

func TestData(t *testing.T) {
	right, wrong := rightData(), wrongData()
	for _, d := range right {
		checkDatum(t, d)
		checkDatum(t, roomyDatum(d))
		checkDatum(t, list(d))
		if !eval.Valid(d) {
			t.Errorf("P9.1: %s is not valid", show(d))
		}
	}
	for _, d := range wrong {
		checkDatum(t, d)
		checkDatum(t, list(num(1), d))
		if eval.Valid(d) {
			t.Errorf("P9.1: %s is valid", show(d))
		}
	}
	all := slices.Concat(right, wrong)
	for i, a := range all {
		for _, b := range all[i:] {
			if want := same(a, b); eval.Same(a, b) != want || eval.Same(b, a) != want {
				t.Errorf("P9.1: Same of %s and %s is not %v", show(a), show(b), want)
			}
		}
	}
}

func TestWeight(t *testing.T) {
	for _, x := range []struct {
		d    api.Datum
		want int
	}{
		{api.Datum{}, 1},
		{num(5), 1},
		{truth(true), 1},
		{str(""), 1},
		{str("abc"), 4},
		{list(), 1},
		{list(num(1)), 2},
		{list(num(1), str("abc"), list(str("d"), truth(true))), 10},
		{api.Datum{Kind: 7, N: 9, S: "ab", L: data(api.Datum{}, str("c"))}, 6},
		{str(strings.Repeat("a", api.MaxWeight-2)), api.MaxWeight - 1},
		{str(strings.Repeat("a", api.MaxWeight-1)), api.MaxWeight},
		{str(strings.Repeat("a", api.MaxWeight)), api.MaxWeight + 1},
		{str(strings.Repeat("a", api.MaxWeight+1)), api.MaxWeight + 1},
		{list(slices.Repeat(data(num(1)), api.MaxWeight-1)...), api.MaxWeight},
		{list(slices.Repeat(data(num(1)), api.MaxWeight)...), api.MaxWeight + 1},
		{list(slices.Repeat(data(num(1)), api.MaxWeight+1)...), api.MaxWeight + 1},
		{list(str(strings.Repeat("a", api.MaxWeight-2))), api.MaxWeight},
		{list(str(strings.Repeat("a", api.MaxWeight-1))), api.MaxWeight + 1},
		{list(str(strings.Repeat("a", api.MaxWeight)), str("a")), api.MaxWeight + 1},
		{list(list(slices.Repeat(data(str("ab")), 1364)...), num(1)), 4095},
		{list(list(slices.Repeat(data(str("ab")), 1364)...), num(1), num(1)), 4096},
		{list(list(slices.Repeat(data(str("ab")), 1364)...), num(1), str("a")), 4097},
		{api.Datum{S: strings.Repeat("a", api.MaxWeight-1), L: data(num(1))}, api.MaxWeight + 1},
		{api.Datum{S: strings.Repeat("a", api.MaxWeight-2), L: data(num(1))}, api.MaxWeight},
	} {
		if got := eval.Weight(x.d); got != x.want {
			t.Errorf("P9.1: a weight of %d is %d", x.want, got)
		}
		checkDatum(t, x.d)
	}
}

func TestSame(t *testing.T) {
	for _, x := range []struct {
		a, b api.Datum
		want bool
	}{
		{api.Datum{}, api.Datum{}, true},
		{api.Datum{}, num(0), false},
		{num(0), truth(false), false},
		{num(1), num(1), true},
		{num(1), num(-1), false},
		{num(1), num(1 + 1<<32), false},
		{str(""), list(), false},
		{str("a"), str("a"), true},
		{str("a"), str("b"), false},
		{str("a"), str("a\x00"), false},
		{list(), api.Datum{Kind: api.DList, L: []api.Datum{}}, true},
		{list(list()), list(api.Datum{Kind: api.DList, L: []api.Datum{}}), true},
		{list(num(1)), list(num(1)), true},
		{list(num(1)), list(num(1), num(1)), false},
		{list(num(1)), list(), false},
		{list(num(1), num(2)), list(num(2), num(1)), false},
		{list(list(num(1)), num(2)), list(list(num(1)), num(2)), true},
		{list(list(num(1)), num(2)), list(list(num(1), num(2))), false},
		{list(list(), num(2)), list(num(2), list()), false},
		// The fields that a kind does not use are compared, too.
		{num(1), api.Datum{Kind: api.DInt, N: 1, S: "a"}, false},
		{num(1), api.Datum{Kind: api.DInt, N: 1, L: data(num(1))}, false},
		{str("a"), api.Datum{Kind: api.DText, N: 1, S: "a"}, false},
		{api.Datum{Kind: 9, N: 1, S: "a", L: data(num(1))}, api.Datum{Kind: 9, N: 1, S: "a", L: data(num(1))}, true},
		{api.Datum{Kind: 9, N: 1, S: "a", L: data(num(1))}, api.Datum{Kind: 9, N: 1, S: "a", L: data(num(2))}, false},
		{api.Datum{Kind: 9, N: 1, S: "a", L: data(num(1))}, api.Datum{Kind: 8, N: 1, S: "a", L: data(num(1))}, false},
	} {
		if eval.Same(x.a, x.b) != x.want {
			t.Errorf("P9.1: Same of %s and %s is not %v", show(x.a), show(x.b), x.want)
		}
		checkAlike(t, x.a, x.b)
		checkAlike(t, roomyDatum(x.a), x.b)
	}
}
