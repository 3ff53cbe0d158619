package scope_test

import (
	"math"
	"slices"
	"strings"
	"testing"

	"semvcs/api"
	"semvcs/scope"
	"semvcs/syntax"
	"semvcs/tree"
)

func node(kind int, text string, kids ...api.Tree) api.Tree {
	return api.Tree{Kind: kind, Text: text, Kids: kids}
}

// path is a path; it is shorter to write than a slice.
func path(l ...int) []int { return l }

// function returns the tree of a function with its leads.
func function(t *testing.T, src string) api.Tree {
	t.Helper()
	m, _, e := syntax.Parse("module M " + src)
	if e != api.OK || len(m.Kids) != 1 || m.Kids[0].Kind != api.Func {
		t.Fatalf("%q is not a function: error %d", src, e)
	}
	return m.Kids[0]
}

// bound is a variable that refers to a binder, and free one that does not.
func bound(at, binder []int) api.Variable { return api.Variable{Path: at, Binder: binder} }

func free(at ...int) api.Variable { return api.Variable{Path: at, Free: true} }

func TestExamples(t *testing.T) {
	f := function(t, "def f(x: Int): Int = let y = x in let x = y in x")
	checkVariables(t, f, bound(path(2, 0), path(0)), bound(path(2, 1, 0), path(2)), bound(path(2, 1, 1), path(2, 1)))
	if got := scope.Visible(f, path(2, 1, 1)); !slices.Equal(got, []string{"x", "y"}) {
		t.Errorf("P5.3: Visible is %q", got)
	}
	if got, ok := scope.Binder(f, path(2, 0), "y"); ok || got != nil {
		t.Errorf("P5.1: Binder is %v, %t", got, ok)
	}
}

// checkVariables checks that a function has these variables, and all that the
// definitions say of it.
func checkVariables(t *testing.T, f api.Tree, want ...api.Variable) {
	t.Helper()
	if got := scope.Variables(f); !slices.EqualFunc(got, want, sameVariable) {
		t.Errorf("P5.2: Variables(%v) is\n%v, not\n%v", f, got, want)
	}
	checkFunction(t, f)
}

func TestVariables(t *testing.T) {
	for _, x := range []struct {
		src  string
		want []api.Variable
	}{
		{"def f(): Int = 1", nil},
		{"def f(): Int = ?", nil},
		{"def f(x: Int): Int = true + false - \"x\" * 2 < ? == (3)", nil},
		{"def x(y: Int): Int = x(M.y())", nil},
		{"def f(): Int = x", []api.Variable{free(1)}},
		{"def f(): Int = f", []api.Variable{free(1)}},
		{"def f(x: Int): Int = x", []api.Variable{bound(path(2), path(0))}},
		{"def f(f: Int): Int = f", []api.Variable{bound(path(2), path(0))}},
		{"def f(x: Int): Int = y", []api.Variable{free(2)}},
		{"def f(x: Int): Int = xx", []api.Variable{free(2)}},
		{"def f(xx: Int): Int = x", []api.Variable{free(2)}},
		{"def f(x: Int, y: Int, z: Int): Int = z", []api.Variable{bound(path(4), path(2))}},
		{"def f(x: Int, y: Int, z: Int): Int = z + y - x", []api.Variable{
			bound(path(4, 0, 0), path(2)), bound(path(4, 0, 1), path(1)), bound(path(4, 1), path(0))}},
		{"def f(x: Int): Int = (((x)))", []api.Variable{bound(path(2, 0, 0, 0), path(0))}},
		{"def f(x: Int): Int = x(x, (x), y, M.x(x))", []api.Variable{
			bound(path(2, 0, 0), path(0)), bound(path(2, 1, 0, 0), path(0)), free(2, 2, 0), bound(path(2, 3, 0, 0, 0), path(0))}},
		{"def f(x: Int): Int = [x, y, x + 1, [x]]", []api.Variable{
			bound(path(2, 0), path(0)), free(2, 1), bound(path(2, 2, 0), path(0)), bound(path(2, 3, 0), path(0))}},
		{"def f(a: Bool, b: Int): Int = if a then b else c", []api.Variable{
			bound(path(3, 0), path(0)), bound(path(3, 1), path(1)), free(3, 2)}},
	} {
		checkVariables(t, function(t, x.src), x.want...)
	}
}

func TestLets(t *testing.T) {
	for _, x := range []struct {
		src  string
		want []api.Variable
	}{
		{"def f(): Int = let x = 1 in x", []api.Variable{bound(path(1, 1), path(1))}},
		{"def f(): Int = let x = x in x", []api.Variable{free(1, 0), bound(path(1, 1), path(1))}},
		{"def f(): Int = let x = x in y", []api.Variable{free(1, 0), free(1, 1)}},
		{"def f(x: Int): Int = let x = x in x", []api.Variable{bound(path(2, 0), path(0)), bound(path(2, 1), path(2))}},
		{"def f(x: Int): Int = let y = x in x", []api.Variable{bound(path(2, 0), path(0)), bound(path(2, 1), path(0))}},
		{"def f(): Int = let x = 1 in let x = x in x", []api.Variable{bound(path(1, 1, 0), path(1)), bound(path(1, 1, 1), path(1, 1))}},
		{"def f(): Int = let x = let x = 1 in x in x", []api.Variable{bound(path(1, 0, 1), path(1, 0)), bound(path(1, 1), path(1))}},
		{"def f(): Int = let x = let y = 1 in y in y", []api.Variable{bound(path(1, 0, 1), path(1, 0)), free(1, 1)}},
		{"def f(): Int = let x = let y = x in x + y in x", []api.Variable{
			free(1, 0, 0), free(1, 0, 1, 0), bound(path(1, 0, 1, 1), path(1, 0)), bound(path(1, 1), path(1))}},
		{"def f(): Int = let x = 1 in let y = let x = x in x in x + y", []api.Variable{
			bound(path(1, 1, 0, 0), path(1)), bound(path(1, 1, 0, 1), path(1, 1, 0)), bound(path(1, 1, 1, 0), path(1)), bound(path(1, 1, 1, 1), path(1, 1))}},
		{"def f(x: Int): Int = (let x = 1 in x) + x", []api.Variable{bound(path(2, 0, 0, 1), path(2, 0, 0)), bound(path(2, 1), path(0))}},
		{"def f(x: Int): Int = x + (let x = 1 in x)", []api.Variable{bound(path(2, 0), path(0)), bound(path(2, 1, 0, 1), path(2, 1, 0))}},
		{"def f(): Int = [let x = 1 in x, x, let x = x in x]", []api.Variable{
			bound(path(1, 0, 1), path(1, 0)), free(1, 1), free(1, 2, 0), bound(path(1, 2, 1), path(1, 2))}},
		{"def f(x: Int): Int = g(let y = x in y, let x = y in x, x)", []api.Variable{
			bound(path(2, 0, 0, 0), path(0)), bound(path(2, 0, 0, 1), path(2, 0, 0)), free(2, 1, 0, 0), bound(path(2, 1, 0, 1), path(2, 1, 0)), bound(path(2, 2, 0), path(0))}},
		{"def f(): Int = if let x = true in x then let y = x in y else let x = y in x", []api.Variable{
			bound(path(1, 0, 1), path(1, 0)), free(1, 1, 0), bound(path(1, 1, 1), path(1, 1)), free(1, 2, 0), bound(path(1, 2, 1), path(1, 2))}},
		{"def f(): Int = let x = 1 in if x then x(x) else [(x), x + x]", []api.Variable{
			bound(path(1, 1, 0), path(1)), bound(path(1, 1, 1, 0, 0), path(1)), bound(path(1, 1, 2, 0, 0), path(1)), bound(path(1, 1, 2, 1, 0), path(1)), bound(path(1, 1, 2, 1, 1), path(1))}},
		{"def f(x: Int, y: Int): Int = let y = 1 in let x = 2 in let y = 3 in x + y", []api.Variable{
			bound(path(3, 1, 1, 1, 0), path(3, 1)), bound(path(3, 1, 1, 1, 1), path(3, 1, 1))}},
	} {
		checkVariables(t, function(t, x.src), x.want...)
	}
}

func TestParametersOfOneName(t *testing.T) {
	f := function(t, "def f(x: Int, y: Int, x: Text, y: Text, x: Bool): Int = x + y + g(let y = x in y)")
	checkVariables(t, f, bound(path(6, 0, 0), path(0)), bound(path(6, 0, 1), path(1)),
		bound(path(6, 1, 0, 0, 0), path(0)), bound(path(6, 1, 0, 0, 1), path(6, 1, 0, 0)))
	if got := scope.Visible(f, path(6)); !slices.Equal(got, []string{"x", "y"}) {
		t.Errorf("P5.3: Visible is %q", got)
	}
	checkVariables(t, function(t, "def f(y: Int, x: Int, x: Int): Int = x"), bound(path(4), path(1)))
}

func TestBinder(t *testing.T) {
	f := function(t, "def f(x: [A], y: Int): Int = let z = g(x, let y = 1 in 2) in [3, let x = (4) in if true then 5 else (x)]")
	none := []int(nil)
	for _, x := range []struct {
		at      []int
		x, y, z []int
	}{
		{path(), none, none, none},
		{path(0), none, none, none},
		{path(0, 0), none, none, none},
		{path(0, 0, 0), none, none, none},
		{path(1), none, none, none},
		{path(1, 0), none, none, none},
		{path(2), none, none, none},
		{path(3), path(0), path(1), none},
		{path(3, 0), path(0), path(1), none},
		{path(3, 0, 0), path(0), path(1), none},
		{path(3, 0, 0, 0), path(0), path(1), none},
		{path(3, 0, 1), path(0), path(1), none},
		{path(3, 0, 1, 0), path(0), path(1), none},
		{path(3, 0, 1, 0, 0), path(0), path(1), none},
		{path(3, 0, 1, 0, 1), path(0), path(3, 0, 1, 0), none},
		{path(3, 1), path(0), path(1), path(3)},
		{path(3, 1, 0), path(0), path(1), path(3)},
		{path(3, 1, 1), path(0), path(1), path(3)},
		{path(3, 1, 1, 0), path(0), path(1), path(3)},
		{path(3, 1, 1, 0, 0), path(0), path(1), path(3)},
		{path(3, 1, 1, 1), path(3, 1, 1), path(1), path(3)},
		{path(3, 1, 1, 1, 0), path(3, 1, 1), path(1), path(3)},
		{path(3, 1, 1, 1, 1), path(3, 1, 1), path(1), path(3)},
		{path(3, 1, 1, 1, 2), path(3, 1, 1), path(1), path(3)},
		{path(3, 1, 1, 1, 2, 0), path(3, 1, 1), path(1), path(3)},
	} {
		var visible []string
		for _, y := range []struct {
			name string
			want []int
		}{{"x", x.x}, {"y", x.y}, {"z", x.z}} {
			got, ok := scope.Binder(f, x.at, y.name)
			if ok != (y.want != nil) || !slices.Equal(got, y.want) {
				t.Errorf("P5.1: Binder at %v of %q is %v, %t, not %v", x.at, y.name, got, ok, y.want)
			}
			if y.want != nil {
				visible = append(visible, y.name)
			}
		}
		if got := scope.Visible(f, x.at); !slices.Equal(got, visible) {
			t.Errorf("P5.3: Visible at %v is %q, not %q", x.at, got, visible)
		}
	}
	if n := tree.Size(f); n != 25 {
		t.Errorf("there are %d nodes to test", n)
	}
	checkFunction(t, f)
}

// TestNamesOfNoBinder has names that occur in a function, but not as those of
// its binders, and texts that are no names.
func TestNamesOfNoBinder(t *testing.T) {
	f := function(t, "def f(x: A, yy: M.B): Text = let z = g(1, \"s\") in w + h(x)")
	for _, at := range tree.Paths(f) {
		for _, name := range []string{"", "f", "g", "h", "w", "A", "M.B", "M", "B", "Int", "Text", "1", "\"s\"", "s", "+", "let", "y", "yyy", "X", "Z", " x", "x ", "x\x00", "\xff"} {
			if got, ok := scope.Binder(f, at, name); ok || got != nil {
				t.Errorf("P5.1: Binder at %v of %q is %v, %t", at, name, got, ok)
			}
		}
	}
	checkFunction(t, f)
}

func TestPathsOfNoNode(t *testing.T) {
	f := function(t, "def f(x: Int, y: Int): Int = let z = x in g(y, z)")
	for _, at := range [][]int{
		{-1}, {4}, {5}, {math.MaxInt}, {math.MinInt}, {0, 1}, {0, 0, 0}, {2, 0},
		{3, -1}, {3, 2}, {3, 0, 0}, {3, 1, 2}, {3, 1, -1}, {3, 1, 0, 1}, {3, 1, 0, 0, 0}, {3, 1, 1, 0, 0, 1},
		{3, 1, math.MaxInt}, {3, math.MinInt, 0}, {4, 1}, {-1, 3, 1}, {3, 2, 1, 0}, {3, 1, 2, 0, 0}, {3, math.MaxInt, 1},
	} {
		checkNone(t, f, at)
	}
}

func TestVisible(t *testing.T) {
	for _, x := range []struct {
		src, want string
		at        []int
	}{
		{"def f(): Int = 1", "", path(1)},
		{"def f(b: Int, a: Int, c: Int): Int = 1", "a b c", path(4)},
		{"def f(c: Int, b: Int, a: Int): Int = (1)", "a b c", path(4, 0)},
		{"def f(b: Int): Int = let a = 1 in let c = 2 in let b = 3 in let a = 4 in 5", "a b c", path(2, 1, 1, 1, 1)},
		{"def f(b: Int): Int = let a = 1 in let c = 2 in let b = 3 in let a = 4 in 5", "a b c", path(2, 1, 1)},
		{"def f(b: Int): Int = let a = 1 in let c = 2 in let b = 3 in let a = 4 in 5", "a b", path(2, 1)},
		{"def f(b: Int): Int = let a = 1 in let c = 2 in let b = 3 in let a = 4 in 5", "a b", path(2, 1, 0)},
		{"def f(b: Int): Int = let a = 1 in let c = 2 in let b = 3 in let a = 4 in 5", "b", path(2, 0)},
		// Strings are compared bytewise: digits come before _, and that before letters; a shorter word comes first.
		{"def f(aZ: Int, a_: Int, aa: Int, a1: Int, a: Int, aB: Int, a10: Int, a2: Int): Int = 1", "a a1 a10 a2 aB aZ a_ aa", path(9)},
		{"def f(x: Int, x: Int): Int = let x = 1 in let x = 2 in 3", "x", path(3, 1, 1)},
	} {
		f := function(t, x.src)
		if got := scope.Visible(f, x.at); !slices.Equal(got, strings.Fields(x.want)) {
			t.Errorf("P5.3: Visible of %q at %v is %q, not %q", x.src, x.at, got, x.want)
		}
		checkFunction(t, f)
	}
}

// TestOtherTrees has trees that are no functions, or not of the right shape.
func TestOtherTrees(t *testing.T) {
	integer, x, one := node(api.TInt, ""), node(api.Var, "x"), node(api.Num, "1")
	parameter := node(api.Param, "x", integer)
	let := node(api.Let, "x", one, x)
	f := node(api.Func, "f", parameter, integer, let)
	for _, y := range []api.Tree{
		{},
		{Kind: -1},
		{Kind: math.MaxInt, Text: "f", Kids: f.Kids},
		node(api.Paren+1, "f", f.Kids...),
		node(api.Module, "M"),
		node(api.Module, "M", f),
		node(api.Alias, "A", integer),
		parameter, integer, x, one, let,
		node(api.TList, "", integer),
		node(api.TName, "A"),
		node(api.Call, "f", node(api.Arg, "", let)),
		node(api.Arg, "", let),
		node(api.List, "", let, x),
		node(api.If, "", x, let, x),
		node(api.Bin, "+", x, x),
		node(api.Paren, "", let),
		node(api.Module, "f", f.Kids...),
		node(api.Let, "f", f.Kids...),
		node(api.Func, ""),
		node(api.Func, "f"),
		node(api.Func, "f", integer),
		node(api.Func, "f", x),
		node(api.Func, "f", x, x),
		node(api.Func, "f", integer, integer),
		node(api.Func, "f", let, integer),
		node(api.Func, "f", parameter, let),
		node(api.Func, "f", parameter, integer),
		node(api.Func, "f", integer, parameter, let),
		node(api.Func, "f", parameter, integer, let, let),
		node(api.Func, "f", parameter, x, integer, let),
		node(api.Func, "f", integer, node(api.Arg, "", x)),
		node(api.Func, "f", integer, f),
		node(api.Func, "", f.Kids...),
		node(api.Func, "F", f.Kids...),
		node(api.Func, "M.f", f.Kids...),
		node(api.Func, "let", f.Kids...),
		node(api.Func, strings.Repeat("f", api.MaxName+1), f.Kids...),
		node(api.Func, "f", node(api.Param, "X", integer), integer, let),
		node(api.Func, "f", node(api.Param, "", integer), integer, let),
		node(api.Func, "f", node(api.Param, "x"), integer, let),
		node(api.Func, "f", node(api.Param, "x", x), integer, let),
		node(api.Func, "f", parameter, integer, node(api.Var, "M.x")),
		node(api.Func, "f", parameter, integer, node(api.Var, "")),
		node(api.Func, "f", parameter, integer, node(api.Var, "x", x)),
		node(api.Func, "f", parameter, integer, node(api.Let, "x", x)),
		node(api.Func, "f", parameter, integer, node(api.Let, "x", x, x, x)),
		node(api.Func, "f", parameter, integer, node(api.Let, "X", x, x)),
		node(api.Func, "f", parameter, integer, node(api.Let, "x", x, integer)),
		node(api.Func, "f", parameter, integer, node(api.Bin, "+", let, x)),
		node(api.Func, "f", parameter, integer, node(api.Bin, "+", x, let)),
		node(api.Func, "f", parameter, integer, node(api.List, "")),
		node(api.Func, "f", parameter, integer, node(api.List, "", x, let, node(api.Num, "01"))),
		node(api.Func, "f", parameter, integer, node(api.Let, "x", api.Tree{}, x)),
	} {
		checkNothing(t, y)
	}
	checkVariables(t, f, bound(path(2, 1), path(2)))
}
