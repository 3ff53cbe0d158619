package eval_test

import (
	"fmt"
	"slices"
	"strconv"
	"strings"
	"testing"
	"unsafe"

	"semvcs/api"
	"semvcs/eval"
	"semvcs/syntax"
)

// repeated is a tree that is built in so many steps.
func repeated(steps int, x api.Tree, step func(x api.Tree) api.Tree) api.Tree {
	for range steps {
		x = step(x)
	}
	return x
}

// defined is a program of a function f of x with this body.
func defined(body api.Tree) []api.Tree {
	return []api.Tree{node(api.Module, "M", node(api.Func, "f", node(api.Param, "x", node(api.TInt, "")), node(api.TInt, ""), body))}
}

// TestFuelAtLimits has runs that take all the fuel that there can be.
func TestFuelAtLimits(t *testing.T) {
	p := program(t, `module M
def loop(): Int = loop()
def grow(n: Int): Int = grow(n + 1) + 1
def more(l: Int): Int = more([l])
def count(n: Int): Int = if n == 0 then 7 else count(n - 1)
def lets(n: Int): Int = let x = n + 1 in lets(x)
def both(n: Int): Int = if n < 1 then 1 else both(n - 1) + both(n - 1)
`)
	for _, fuel := range []int{api.MaxFuel, api.MaxFuel - 1, 1000, 999} {
		checkShown(t, p, 0, 0, nil, fuel, fmt.Sprint("fuel used ", fuel))
		checkShown(t, p, 0, 1, data(num(1)), fuel, fmt.Sprint("fuel used ", fuel))
		checkShown(t, p, 0, 4, data(num(1)), fuel, fmt.Sprint("fuel used ", fuel))
		checkShown(t, p, 0, 5, data(num(100)), fuel, fmt.Sprint("fuel used ", fuel))
	}
	n := (api.MaxFuel - 5) / 8
	used := 5 + 8*n
	checkShown(t, p, 0, 3, data(num(int64(n))), api.MaxFuel, fmt.Sprint("7 used ", used))
	checkShown(t, p, 0, 3, data(num(int64(n))), used, fmt.Sprint("7 used ", used))
	checkShown(t, p, 0, 3, data(num(int64(n))), used-1, fmt.Sprint("fuel used ", used-1))
	checkShown(t, p, 0, 3, data(num(int64(n+1))), api.MaxFuel, fmt.Sprint("fuel used ", api.MaxFuel))
	// A list in a list takes three units and one of weight.
	checkShown(t, p, 0, 2, data(num(1)), api.MaxFuel, fmt.Sprint("long used ", 3*api.MaxWeight))
	checkShown(t, p, 0, 2, data(num(1)), 3*api.MaxWeight-1, fmt.Sprint("fuel used ", 3*api.MaxWeight-1))
	checkRun(t, p, 0, 3, data(num(500)), api.MaxFuel)
	checkRun(t, p, 0, 5, data(num(7)), api.MaxFuel)
	checkRun(t, p, 0, 4, data(num(7)), api.MaxFuel)
}

// TestFuelOfLastUnit has programs that need just the fuel that there is.
func TestFuelOfLastUnit(t *testing.T) {
	one := node(api.Num, "1")
	l := node(api.List, "", slices.Repeat([]api.Tree{one}, 4000)...)
	rest := api.MaxFuel - 4001 - 1
	body := node(api.Let, "y", l, repeated(rest-1, node(api.Var, "x"), func(x api.Tree) api.Tree { return node(api.Paren, "", x) }))
	checkShown(t, defined(body), 0, 0, data(num(5)), api.MaxFuel, fmt.Sprint("5 used ", api.MaxFuel))
	checkShown(t, defined(body), 0, 0, data(num(5)), api.MaxFuel-1, fmt.Sprint("fuel used ", api.MaxFuel-1))
	checkShown(t, defined(node(api.Paren, "", body)), 0, 0, data(num(5)), api.MaxFuel, fmt.Sprint("fuel used ", api.MaxFuel))
	hole := node(api.Let, "y", l, repeated(rest-1, node(api.Hole, ""), func(x api.Tree) api.Tree { return node(api.Paren, "", x) }))
	checkShown(t, defined(hole), 0, 0, data(num(5)), api.MaxFuel, fmt.Sprint("none used ", api.MaxFuel))
	checkShown(t, defined(hole), 0, 0, data(num(5)), api.MaxFuel-1, fmt.Sprint("fuel used ", api.MaxFuel-1))
}

// TestTextsAtLimits has texts that become just as heavy as data can be.
func TestTextsAtLimits(t *testing.T) {
	text := func(n int) api.Datum { return str(strings.Repeat("a", n)) }
	most := api.MaxWeight - 1
	whole := strconv.Quote(strings.Repeat("a", most))
	checkBodies(t, []body{
		{"a + b", data(text(most-1), text(1)), whole + " used 3"},
		{"a + b", data(text(1), text(most-1)), whole + " used 3"},
		{"a + b", data(text(0), text(most)), whole + " used 3"},
		{"a + b", data(text(most), text(0)), whole + " used 3"},
		{"a + b", data(text(most), text(1)), "long used 3"},
		{"a + b", data(text(1), text(most)), "long used 3"},
		{"a + b", data(text(most), text(most)), "long used 3"},
		{"a + b + ?", data(text(most), text(1)), "long used 4"},
		{"a + b + ?", data(text(most), text(0)), "none used 5"},
		{"a + (b + c)", data(text(most), text(0), text(1)), "long used 6"},
		{"a == b", data(text(most), text(most)), "true used 3"},
		{"a == b", data(text(most), text(most-1)), "false used 3"},
		{"a + b", data(text(most), num(1)), "type used 3"},
	})
}

// TestListsAtLimits has lists that become just as heavy as data can be.
func TestListsAtLimits(t *testing.T) {
	text := func(n int) api.Datum { return str(strings.Repeat("a", n)) }
	rest := api.MaxWeight - 3
	heavy := list(slices.Repeat(data(num(1)), api.MaxWeight-2)...)
	half := list(slices.Repeat(data(str("abcd")), 409)...)
	checkBodies(t, []body{
		{"[a, 1]", data(text(rest)), show(list(text(rest), num(1))) + " used 3"},
		{"[1, a]", data(text(rest)), show(list(num(1), text(rest))) + " used 3"},
		{"[a, 1]", data(text(rest + 1)), "long used 3"},
		{"[1, a]", data(text(rest + 1)), "long used 3"},
		{"[a, ?]", data(text(rest + 2)), "none used 3"},
		{"[a, 1 + true]", data(text(rest + 2)), "type used 5"},
		{"[a]", data(text(rest + 1)), show(list(text(rest+1))) + " used 2"},
		{"[a]", data(text(rest + 2)), "long used 2"},
		{"[[a], ?]", data(text(rest + 2)), "long used 3"},
		{"[a]", data(heavy), show(list(heavy)) + " used 2"},
		{"[a, 1]", data(heavy), "long used 3"},
		{"[[a]]", data(heavy), "long used 3"},
		{"[a] == [a]", data(heavy), "true used 5"},
		{"let b = [a] in if b == [b] then b else a", data(heavy), "long used 8"},
		{"[a, a]", data(half), show(list(half, half)) + " used 3"},
		{"[a, a, 1, true, 3]", data(half), show(list(half, half, num(1), truth(true), num(3))) + " used 6"},
		{"[a, a, 1, true, 3, 4]", data(half), "long used 7"},
		{"[a, [a, 1], 3]", data(half), show(list(half, list(half, num(1)), num(3))) + " used 6"},
		{"[a, [a, 1], [3]]", data(half), "long used 7"},
	})
}

// TestGreatLists has more items in one list than a valid tree can have.
func TestGreatLists(t *testing.T) {
	for _, x := range []struct {
		items, fuel int
		want        string
	}{
		{api.MaxWeight - 1, api.MaxFuel, ""},
		{api.MaxWeight, api.MaxFuel, fmt.Sprint("long used ", api.MaxWeight+1)},
		{api.MaxWeight, api.MaxWeight, fmt.Sprint("fuel used ", api.MaxWeight)},
		{api.MaxFuel - 1, api.MaxFuel, fmt.Sprint("long used ", api.MaxFuel)},
		{api.MaxFuel, api.MaxFuel, fmt.Sprint("fuel used ", api.MaxFuel)},
		{1 << 16, api.MaxFuel, fmt.Sprint("fuel used ", api.MaxFuel)},
		{1 << 16, 2, "fuel used 2"},
	} {
		p := defined(node(api.List, "", slices.Repeat([]api.Tree{node(api.Var, "x")}, x.items)...))
		if x.want == "" {
			x.want = fmt.Sprint(show(list(slices.Repeat(data(str("")), x.items)...)), " used ", x.items+1)
		}
		checkShown(t, p, 0, 0, data(str("")), x.fuel, x.want)
	}
}

// TestLongTokens has texts in programs that are heavier than valid data.
func TestLongTokens(t *testing.T) {
	long := strings.Repeat("a", 2*api.MaxWeight)
	token := node(api.Str, `"`+long+`"`)
	for _, x := range []struct {
		body api.Tree
		want string
	}{
		{token, strconv.Quote(long) + " used 1"},
		{node(api.Bin, "==", token, token), "true used 3"},
		{node(api.Bin, "==", token, node(api.Var, "x")), "false used 3"},
		{node(api.Bin, "+", token, node(api.Var, "x")), "long used 3"},
		{node(api.Bin, "+", node(api.Var, "x"), token), "long used 3"},
		{node(api.List, "", token), "long used 2"},
		{node(api.Let, "y", token, node(api.Var, "x")), `"" used 3`},
		{node(api.If, "", node(api.True, ""), node(api.Call, "f", node(api.Arg, "", token)), token), "fuel used 999"},
	} {
		checkShown(t, defined(x.body), 0, 0, data(str("")), 999, x.want)
	}
}

// TestManyParameters has more of them than a valid function can have.
func TestManyParameters(t *testing.T) {
	const params = 1000
	f := node(api.Func, "f")
	call := node(api.Call, "M.g")
	var args []api.Datum
	for i := range params {
		f.Kids = append(f.Kids, node(api.Param, "x"+strconv.Itoa(i%600), node(api.TInt, "")))
		call.Kids = append(call.Kids, node(api.Arg, "", node(api.Var, "x"+strconv.Itoa(i%600))))
		args = append(args, num(int64(i)))
	}
	g := node(api.Func, "g", f.Kids...)
	f.Kids = append(slices.Clip(f.Kids), node(api.TInt, ""), call)
	g.Kids = append(slices.Clip(g.Kids), node(api.TInt, ""), node(api.List, "", node(api.Var, "x0"), node(api.Var, "x399"), node(api.Var, "x400"), node(api.Var, "x599")))
	p := []api.Tree{node(api.Module, "M", f, g)}
	checkShown(t, p, 0, 1, args, 9, "[0, 399, 400, 599] used 5")
	checkShown(t, p, 0, 0, args, api.MaxFuel, "[0, 399, 400, 599] used 1006")
	checkShown(t, p, 0, 0, args[1:], api.MaxFuel, "arg used 0")
	checkShown(t, p, 0, 0, append(slices.Clip(args), num(1)), api.MaxFuel, "arg used 0")
}

// TestProgramAtLimits has as many files, definitions and parameters as a valid
// program can have; each function calls the next one.
func TestProgramAtLimits(t *testing.T) {
	var p []api.Tree
	for m := range api.MaxFiles {
		x := node(api.Module, "M"+strconv.Itoa(m))
		for d := range api.MaxDefs {
			f := node(api.Func, "f"+strconv.Itoa(d))
			call := node(api.Call, "f"+strconv.Itoa(d+1))
			for i := range api.MaxParams {
				f.Kids = append(f.Kids, node(api.Param, "x"+strconv.Itoa(i), node(api.TInt, "")))
				call.Kids = append(call.Kids, node(api.Arg, "", node(api.Var, "x"+strconv.Itoa((i+1)%api.MaxParams))))
			}
			if d == api.MaxDefs-1 {
				call.Text = "M" + strconv.Itoa(m+1) + ".f0"
			}
			if d == api.MaxDefs-1 && m == api.MaxFiles-1 {
				call = node(api.List, "", node(api.Var, "x0"), node(api.Var, "x7"))
			}
			x.Kids = append(x.Kids, node(api.Func, f.Text, append(f.Kids, node(api.TInt, ""), call)...))
		}
		x = withLeads(x)
		if len(syntax.Print(x)) < api.MaxFile {
			t.Fatalf("a module has only %d bytes", len(syntax.Print(x)))
		}
		p = append(p, x)
	}
	var args []api.Datum
	for i := range api.MaxParams {
		args = append(args, num(int64(i)))
	}
	calls := api.MaxFiles*api.MaxDefs - 1
	checkShown(t, p, 0, 0, args, api.MaxFuel, fmt.Sprint("[7, 6] used ", calls*(1+api.MaxParams)+3))
	checkShown(t, p, api.MaxFiles-1, api.MaxDefs-1, args, 3, "[0, 7] used 3")
	checkShown(t, p, api.MaxFiles, api.MaxDefs-1, args, 3, "arg used 0")
	checkShown(t, p, api.MaxFiles-1, api.MaxDefs, args, 3, "arg used 0")
}

// TestManyDefinitions has more of them than a valid program can have.
func TestManyDefinitions(t *testing.T) {
	const modules, defs = 12, 150
	var p []api.Tree
	for m := range modules {
		x := node(api.Module, "M"+strconv.Itoa(m))
		for d := range defs {
			call := node(api.Call, "M"+strconv.Itoa((m+5)%modules)+".f"+strconv.Itoa((d+m/11)%defs), node(api.Arg, "", node(api.List, "", node(api.Var, "x"))))
			body := node(api.If, "", node(api.Bin, "==", node(api.Var, "x"), node(api.List, "", node(api.List, "", node(api.Num, "1")))), node(api.Num, strconv.Itoa(1+m*1000+d)), call)
			x.Kids = append(x.Kids, node(api.Func, "f"+strconv.Itoa(d), node(api.Param, "x", node(api.TInt, "")), node(api.TInt, ""), body))
		}
		p = append(p, x)
	}
	checkShown(t, p, 2, 7, data(list(num(1))), 100, "7008 used 16")
	checkShown(t, p, 7, 0, data(list(list(num(1)))), 100, "7001 used 7")
	// Data of other kinds cannot be compared with a list.
	checkShown(t, p, 2, 7, data(num(1)), 100, "type used 6")
	checkShown(t, p, 2, 7, data(list()), 100, "fuel used 100")
}

// TestDeepPrograms has as many levels as rule R10 allows, of which a run sees
// only some.
func TestDeepPrograms(t *testing.T) {
	const levels = 1<<16 - 3
	one, x, yes := node(api.Num, "1"), node(api.Var, "x"), node(api.True, "")
	f := func(x api.Tree) api.Tree { return node(api.Call, "f", node(api.Arg, "", x)) }
	spent := fmt.Sprint("fuel used ", api.MaxFuel)
	for _, d := range []struct {
		name string
		body api.Tree
		want string
	}{
		{"parens", repeated(levels, one, func(x api.Tree) api.Tree { return node(api.Paren, "", x) }), spent},
		{"lists", repeated(levels, one, func(x api.Tree) api.Tree { return node(api.List, "", x) }), spent},
		{"sums", repeated(levels, one, func(y api.Tree) api.Tree { return node(api.Bin, "+", y, x) }), spent},
		{"calls", repeated(levels/2, one, f), spent},
		{"values of lets", repeated(levels, one, func(y api.Tree) api.Tree { return node(api.Let, "y", y, x) }), spent},
		{"lets", repeated(levels, x, func(y api.Tree) api.Tree { return node(api.Let, "y", x, y) }), spent},
		{"conditions", repeated(levels, yes, func(y api.Tree) api.Tree { return node(api.If, "", y, yes, yes) }), spent},
		{"branches", repeated(levels, x, func(y api.Tree) api.Tree { return node(api.If, "", yes, y, x) }), spent},
		{"branches not taken", repeated(levels, x, func(y api.Tree) api.Tree { return node(api.If, "", yes, x, y) }), "5 used 3"},
		{"arguments of a hole", repeated(levels/2, one, func(y api.Tree) api.Tree {
			return node(api.Call, "f", node(api.Arg, "", node(api.Hole, "")), node(api.Arg, "", y))
		}), "none used 2"},
	} {
		var got outcome
		p := defined(d.body)
		if got.value, got.used, got.e = eval.Run(p, 0, 0, data(num(5)), api.MaxFuel); got.shown() != d.want {
			t.Errorf("P9.2: the run of %s is %s", d.name, got.shown())
		}
		broken := defined(node(api.If, "", yes, one, d.body))
		broken[0].Kids = append(broken[0].Kids, node(api.Func, "g", node(api.TInt, ""), node(api.List, "")))
		checkShown(t, broken, 0, 0, data(num(5)), api.MaxFuel, "arg used 0")
	}
}

// TestDeepLets has binders that are far out.
func TestDeepLets(t *testing.T) {
	const lets = 3000
	sum := repeated(1000, node(api.Num, "0"), func(y api.Tree) api.Tree { return node(api.Bin, "+", y, node(api.Var, "x")) })
	n := 0
	body := repeated(lets, sum, func(y api.Tree) api.Tree {
		n++
		return node(api.Let, "y"+strconv.Itoa(n%100), node(api.Var, "x"), y)
	})
	checkShown(t, defined(body), 0, 0, data(num(3)), api.MaxFuel, fmt.Sprint("3000 used ", 2*lets+2001))
}

// nested is a datum in so many lists.
func nested(lists int, d api.Datum) api.Datum {
	for range lists {
		d = list(d)
	}
	return d
}

// TestDeepData has as many levels as rule R10 allows.
func TestDeepData(t *testing.T) {
	for _, x := range []struct {
		lists, want int
		valid       bool
	}{
		{api.MaxWeight - 2, api.MaxWeight - 1, true},
		{api.MaxWeight - 1, api.MaxWeight, true},
		{api.MaxWeight, api.MaxWeight + 1, false},
		{1<<16 - 1, api.MaxWeight + 1, false},
	} {
		a, b := nested(x.lists, num(1)), nested(x.lists, num(1))
		if got := eval.Weight(a); got != x.want {
			t.Errorf("P9.1: the weight of %d lists is %d", x.lists, got)
		}
		if eval.Valid(a) != x.valid {
			t.Errorf("P9.1: Valid of %d lists is %v", x.lists, !x.valid)
		}
		if eval.Valid(nested(x.lists, api.Datum{})) {
			t.Errorf("P9.1: %d lists of what is no datum are valid", x.lists)
		}
		if !eval.Same(a, b) || eval.Same(a, nested(x.lists, num(2))) || eval.Same(a, nested(x.lists+1, num(1))) || eval.Same(nested(x.lists+1, num(1)), a) {
			t.Errorf("P9.1: Same of %d lists is wrong", x.lists)
		}
		d, used, e := eval.Run(defined(node(api.Var, "x")), 0, 0, data(a), 9)
		if x.valid && (e != api.OK || used != 1 || !eval.Same(d, b)) || !x.valid && (e != api.ErrArg || used != 0 || !same(d, api.Datum{})) {
			t.Errorf("P9.2: a run of %d lists has the error %d and uses %d", x.lists, e, used)
		}
	}
}

// TestWideData has data in which one list stands at many places: as a tree they
// are far heavier than anything that could be looked at.
func TestWideData(t *testing.T) {
	d := num(1)
	for range 60 {
		d = list(d, d)
	}
	if eval.Weight(d) != api.MaxWeight+1 || eval.Valid(d) {
		t.Errorf("P9.1: 2^60 data are not too heavy")
	}
	d, used, e := eval.Run(defined(node(api.Var, "x")), 0, 0, data(d), 9)
	if e != api.ErrArg || used != 0 || !same(d, api.Datum{}) {
		t.Errorf("P9.2: a run of 2^60 data has the error %d", e)
	}
}

// TestRings has lists that are in themselves.
func TestRings(t *testing.T) {
	l := data(num(1), list())
	l[1].L = l
	if d := list(l...); eval.Weight(d) != api.MaxWeight+1 || eval.Valid(d) {
		t.Errorf("P9.1: a ring is not too heavy")
	}
	if _, used, e := eval.Run(defined(node(api.Var, "x")), 0, 0, l[1:], 9); e != api.ErrArg || used != 0 {
		t.Errorf("P9.2: a run of a ring has the error %d", e)
	}
}

// TestLongNames has words of the greatest length, one of which begins as another
// one does.
func TestLongNames(t *testing.T) {
	up, low := strings.Repeat("T", api.MaxName), strings.Repeat("t", api.MaxName)
	p := program(t, "module "+up[1:]+" def "+low+"(): Int = 9", "module "+up+" def "+low[1:]+"("+low+": Int, "+low[1:]+": Int): Int = "+low[1:]+" def "+low+"("+low+": Int): Int = "+up+"."+low[1:]+"("+low+", "+low+" + "+up[1:]+"."+low+"())")
	checkShown(t, p, 1, 1, data(num(1)), 100, "10 used 7")
	checkRun(t, p, 1, 1, data(num(1)), 100)
}

// span is the memory of a slice, with its spare capacity.
type span struct {
	from, to uintptr
}

// spans returns the memory of all lists of data.
func spans(l []api.Datum) []span {
	var all []span
	if cap(l) > 0 {
		from := uintptr(unsafe.Pointer(unsafe.SliceData(l)))
		all = append(all, span{from, from + uintptr(cap(l))*unsafe.Sizeof(api.Datum{})})
	}
	for _, d := range l {
		all = append(all, spans(d.L)...)
	}
	return all
}

// checkApart checks that no slice shares memory with another one, and that those
// in l share none with others.
func checkApart(t *testing.T, l, others []span) {
	t.Helper()
	for i, x := range l {
		for _, y := range slices.Concat(l[i+1:], others) {
			if x.from < y.to && y.from < x.to {
				t.Fatal("R2: results share memory with arguments or with each other")
			}
		}
	}
}

// TestResultsAreNew changes results; neither arguments nor other results, also
// later ones, may change.
func TestResultsAreNew(t *testing.T) {
	for _, src := range []string{
		"x", "(x)", "[x]", "[x, x]", "let y = [x] in [y, y]", "f(x, [1])", "if x == x then [[x], x] else x", "let x = [x, x] in [x, x]",
	} {
		p := program(t, "module M def f(x: Int, y: Int): Int = [x, y, x] def g(x: Int): Int = "+src)
		args := roomyData(data(list(list(num(1)), list(), str("a"), list(truth(true), list(num(2))))))
		a, used, e := eval.Run(p, 0, 1, args, 99)
		b, _, _ := eval.Run(p, 0, 1, args, 99)
		if e != api.OK {
			t.Fatalf("error %d", e)
		}
		checkApart(t, slices.Concat(spans(a.L), spans(b.L)), spans(args))
		want := wholeDatum(b)
		spoil(a.L)
		c, again, e := eval.Run(p, 0, 1, args, 99)
		if !same(b, want) || !same(c, want) || again != used || e != api.OK {
			t.Errorf("R2: results of %q have changed with other ones", src)
		}
		checkRun(t, p, 0, 1, args, 99)
	}
}

// spoil changes all data of a list.
func spoil(l []api.Datum) {
	for i := range l {
		spoil(l[i].L)
		l[i] = str("changed")
	}
}

// TestSharedArguments has one slice at several places of the arguments.
func TestSharedArguments(t *testing.T) {
	kids := append([]api.Tree{}, node(api.TInt, ""), node(api.Call, "f"), node(api.Hole, ""))[:2]
	items := node(api.List, "", kids[1], node(api.List, "", kids[1:2]...), node(api.Num, "1"))
	sum := node(api.Bin, "==", items, node(api.Paren, "", items))
	defs := append([]api.Tree{}, node(api.Alias, "T", kids[:1]...), node(api.Func, "f", kids...), node(api.Func, "g", kids[0], sum), node(api.Func, "f", kids[0], sum), node(api.Hole, ""))[:4]
	a := node(api.Module, "A", defs...)
	p := append([]api.Tree{}, a, node(api.Module, "B", defs[1:]...), a, node(api.Module, "A", defs[3:4]...))[:3]
	for m := range p {
		for d := range p[m].Kids {
			checkRun(t, p, m, d, nil, 50)
		}
	}
	l := append(data(num(1), list(num(2))), str("spare"))[:2]
	args := append(data(list(l...), list(l[1:]...), l[1]), list(l...))[:3]
	q := program(t, "module M def f(x: Int, y: Int, z: Int): Int = if [z] == y then [x, y, z, y] else 0")
	checkRun(t, q, 0, 0, args, 50)
	checkRun(t, q, 0, 0, args[1:], 50)
	checkRun(t, q, 0, 0, args[1:4], 50)
}

// TestParallelCalls calls all functions on the same arguments at once: the race
// detector would tell if an argument was written, or anything was kept.
func TestParallelCalls(t *testing.T) {
	p := roomy(program(t, "module A def f(x: Int): Int = if x == [1] then [B.g(x), x] else x", "module B def g(x: Int): Int = let y = x in [y]"))
	args := roomyData(data(list(num(1))))
	for range 4 {
		t.Run("", func(t *testing.T) {
			t.Parallel()
			for range 20 {
				checkShown(t, p, 0, 0, args, 99, "[[[1]], [1]] used 13")
				if !eval.Valid(args[0]) || !eval.Same(args[0], list(num(1))) || eval.Weight(args[0]) != 2 {
					t.Error("P9.1: the argument is another one")
				}
			}
		})
	}
}
