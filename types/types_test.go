package types_test

import (
	"math"
	"slices"
	"strings"
	"testing"

	"semvcs/api"
	"semvcs/syntax"
	"semvcs/tree"
	"semvcs/types"
)

func node(kind int, text string, kids ...api.Tree) api.Tree {
	return api.Tree{Kind: kind, Text: text, Kids: kids}
}

// program returns the trees of modules with their leads.
func program(t *testing.T, sources ...string) []api.Tree {
	t.Helper()
	var p []api.Tree
	for _, src := range sources {
		m, at, e := syntax.Parse(src)
		if e != api.OK {
			t.Fatalf("%q: error %d at %d", src, e, at)
		}
		p = append(p, m)
	}
	return p
}

// typed returns the tree of a type with its leads.
func typed(t *testing.T, src string) api.Tree {
	t.Helper()
	x, ok := tree.At(program(t, "module M type T = "+src)[0], []int{0, 0})
	if !ok {
		t.Fatalf("%q is no type", src)
	}
	return x
}

// expected is what Expand says of a type: a type, or the name of an error.
func expected(s string) (string, api.Errno) {
	switch s {
	case "none":
		return "", api.ErrNone
	case "cycle":
		return "", api.ErrCycle
	case "arg":
		return "", api.ErrArg
	}
	return s, api.OK
}

// checkExpand checks what a type is in a module.
func checkExpand(t *testing.T, p []api.Tree, module int, x api.Tree, want string) {
	t.Helper()
	s, e := expected(want)
	u, err := types.Expand(p, module, x)
	if err != e || e != api.OK && !tree.Same(u, api.Tree{}) {
		t.Fatalf("P7.1: Expand(%v, %d, %v) is %v, %d, not %d", p, module, x, u, err, e)
	}
	if e == api.OK && !tree.Same(u, basic(s)) {
		t.Fatalf("P7.1: Expand(%v, %d, %v) is %v, not %s", p, module, x, u, s)
	}
}

func TestExamples(t *testing.T) {
	p := program(t, "module A type T = [B.U]", "module B type U = Int type V = V")
	checkExpand(t, p, 0, typed(t, "T"), "[Int]")
	checkExpand(t, p, 1, typed(t, "V"), "cycle")
	if !types.Circular(p, 1, 1) || types.Circular(p, 1, 0) {
		t.Error("P7.2: Circular of V or of U")
	}
	checkProgram(t, p)
}

// TestExpand has types in each of two modules.
func TestExpand(t *testing.T) {
	p := program(t, `module A
type T = [B.U] # comment
type S = Text
type List = [[List]]
type To = List
def f(s: S, g: T): B.None = g
type None = Nothing
type Own = A.S
type Far = [ [ B.T ] ]
`,
		"module B type U = Int type T = [A.S] type S = Bool type Back = A.Forth type Both = A.T type Own = S type Lost = [A.None]")
	for _, x := range []struct {
		src  string
		want string // what it is in A, and in B
	}{
		{"Int", "Int Int"},
		{"Text", "Text Text"},
		{"Bool", "Bool Bool"},
		{"[Int]", "[Int] [Int]"},
		{" [ [ # comment\n [\tBool ] ] ]", "[[[Bool]]] [[[Bool]]]"},
		{"T", "[Int] [Text]"},
		{"S", "Text Bool"},
		{"[S]", "[Text] [Bool]"},
		{"[ [ T ] ]", "[[[Int]]] [[[Text]]]"},
		{"U", "none Int"},
		{"B.U", "Int Int"},
		{"B.T", "[Text] [Text]"},
		{"A.T", "[Int] [Int]"},
		{"[A.S]", "[Text] [Text]"},
		{"[B.S]", "[Bool] [Bool]"},
		{"Own", "Text Bool"},
		{"Far", "[[[Text]]] none"},
		{"[A.Far]", "[[[[Text]]]] [[[[Text]]]]"},
		{"Both", "none [Int]"},
		{"B.Both", "[Int] [Int]"},
		{"List", "cycle none"},
		{"To", "cycle none"},
		{"[A.To]", "cycle cycle"},
		{"None", "none none"},
		{"A.None", "none none"},
		{"Lost", "none none"},
		{"B.Lost", "none none"},
		{"Back", "none none"},
		{"B.Back", "none none"},
		{"A", "none none"},
		{"B", "none none"},
		{"A.A", "none none"},
		{"C.T", "none none"},
		{"[[C]]", "none none"},
	} {
		for m, want := range strings.Fields(x.want) {
			checkExpand(t, p, m, typed(t, x.src), want)
		}
		for _, m := range []int{-1, 2, 3, math.MaxInt, math.MinInt} {
			checkExpand(t, p, m, typed(t, x.src), "arg")
		}
	}
	checkProgram(t, p)
}

// TestNamesOfManyDefinitions has several modules and definitions of one name:
// the first ones are meant, but a module's own words mean its own definitions.
func TestNamesOfManyDefinitions(t *testing.T) {
	p := program(t,
		"module B type T = A.T type U = A.U type W = A.W type X = A.X",
		"module A type T = Int type T = T type U = U type U = Int type W = V type V = A.V",
		"module A type T = [T] type V = Text type T = Int type U = V type W = A.T type X = Bool",
		"module T type T = T.U type U = [Bool]")
	for _, x := range []struct{ src, want string }{
		{"T", "Int Int cycle [Bool]"},
		{"U", "cycle cycle Text [Bool]"},
		{"V", "none cycle Text none"},
		{"W", "cycle cycle Int none"},
		{"X", "none none Bool none"},
		{"A.T", "Int Int Int Int"},
		{"A.U", "cycle cycle cycle cycle"},
		{"A.V", "cycle cycle cycle cycle"},
		{"A.X", "none none none none"},
		{"B.T", "Int Int Int Int"},
		{"B.X", "none none none none"},
		{"T.T", "[Bool] [Bool] [Bool] [Bool]"},
	} {
		for m, want := range strings.Fields(x.want) {
			checkExpand(t, p, m, typed(t, x.src), want)
		}
	}
	checkProgram(t, p)
	for m, want := range []string{"----", "--+--+", "+-----", "--"} {
		checkCircular(t, p, m, want)
	}
}

// checkCircular checks which definitions of a module are circular: a sign each.
func checkCircular(t *testing.T, p []api.Tree, module int, want string) {
	t.Helper()
	got := make([]byte, len(p[module].Kids))
	for d := range got {
		got[d] = '-'
		if types.Circular(p, module, d) {
			got[d] = '+'
		}
	}
	if string(got) != want {
		t.Errorf("P7.2: in %v are circular %s, not %s", p[module], got, want)
	}
}

func TestCircular(t *testing.T) {
	for _, x := range []struct {
		want    string
		sources []string
	}{
		{"", []string{"module A"}},
		{"-", []string{"module A type T = Int"}},
		{"-", []string{"module A type T = U"}},
		{"-", []string{"module A type T = B.T"}},
		{"-", []string{"module A def f(x: T): T = f(f(x))"}},
		{"+", []string{"module A type T = T"}},
		{"+", []string{"module A type T = [[T]]"}},
		{"+", []string{"module A type T = A.T"}},
		{"++", []string{"module A type T = U type U = T"}},
		{"++", []string{"module A type T = [A.U] type U = [T]"}},
		{"+++", []string{"module A type T = V type U = T type V = U"}},
		{"+-", []string{"module A type T = T type U = T"}},
		{"-+", []string{"module A type T = U type U = U"}},
		{"--++", []string{"module A type T = U type U = V type V = W type W = V"}},
		{"--+", []string{"module A type T = U type U = V type V = [V]"}},
		{"++--", []string{"module A type T = U type U = T type V = W type W = Int"}},
		{"-+-+-", []string{"module A def f(): Int = 1 type T = U def g(): T = f() type U = T type T = Int"}},
		{"-+", []string{"module A type T = B.T type U = B.U", "module B type T = Int type U = [A.U]"}},
		{"+ +", []string{"module A type T = B.T", "module B type T = A.T"}},
		{"- -+ -", []string{"module A type T = B.U", "module B type T = A.T type U = U", "module B type U = B.U"}},
		{"- +- -", []string{"module A type T = B.U", "module B type U = U type U = A.T", "module A type T = T.T"}},
	} {
		p := program(t, x.sources...)
		for m, want := range strings.Split(x.want, " ") {
			checkCircular(t, p, m, want)
		}
		checkProgram(t, p)
	}
}

func TestIndicesOfNoAlias(t *testing.T) {
	p := program(t, "module A type T = T def f(): T = f()", "module B type U = U type T = A.T")
	for _, x := range []struct {
		module, def int
		want        bool
	}{
		{0, 0, true}, {1, 0, true}, {1, 1, false}, {0, 1, false},
		{0, 2, false}, {0, -1, false}, {1, 2, false}, {1, -1, false}, {2, 0, false}, {-1, 0, false}, {-1, -1, false}, {2, 2, false},
		{0, math.MaxInt, false}, {0, math.MinInt, false}, {math.MaxInt, 0, false}, {math.MinInt, 0, false}, {math.MinInt, math.MaxInt, false},
	} {
		if got := types.Circular(p, x.module, x.def); got != x.want {
			t.Errorf("P7.2: Circular(p, %d, %d) is %t", x.module, x.def, got)
		}
	}
	for _, none := range [][]api.Tree{nil, {}, program(t, "module A")} {
		for m := -1; m <= 1; m++ {
			for d := -1; d <= 1; d++ {
				if types.Circular(none, m, d) {
					t.Errorf("P7.2: Circular(%v, %d, %d)", none, m, d)
				}
			}
		}
		checkProgram(t, none)
	}
	checkExpand(t, nil, 0, node(api.TInt, ""), "arg")
	checkExpand(t, program(t, "module A"), 0, node(api.TInt, ""), "Int")
}

func TestEqual(t *testing.T) {
	p := program(t,
		"module A type T = [B.U] type U = Text type L = L type N = N1",
		"module B type U = Int type T = Int type M = A.L type L = [A.T]")
	for _, x := range []struct {
		m    int
		a    string
		n    int
		b    string
		want bool
	}{
		{0, "Int", 0, "Int", true},
		{0, "Int", 1, " Int", true},
		{0, "Int", 0, "Text", false},
		{0, "Bool", 0, "Text", false},
		{0, "Bool", 1, "Bool", true},
		{0, "[Int]", 0, "Int", false},
		{0, "[Int]", 0, "[Bool]", false},
		{0, "[Int]", 0, "[[Int]]", false},
		{0, "[ Text # same\n]", 1, "[Text]", true},
		{0, "T", 0, "[Int]", true},
		{0, "T", 0, "T", true},
		{0, "T", 1, "T", false},
		{0, "T", 1, "[T]", true},
		{0, "[T]", 1, "L", true},
		{0, "[T]", 1, "[L]", false},
		{0, "U", 1, "U", false},
		{0, "U", 1, "A.U", true},
		{0, "B.U", 1, "U", true},
		{0, "B.T", 0, "B.U", true},
		{0, "B.T", 0, "A.U", false},
		// What is not known is not the same as anything, also not as itself.
		{0, "L", 0, "L", false},
		{0, "L", 1, "M", false},
		{0, "N", 0, "N", false},
		{0, "N1", 0, "N1", false},
		{0, "N1", 0, "Int", false},
		{0, "Int", 0, "N1", false},
		{0, "L", 0, "Int", false},
		{0, "Int", 1, "M", false},
		{1, "C.T", 1, "C.T", false},
		// A module that there is not has no types.
		{-1, "Int", 0, "Int", false},
		{0, "Int", 2, "Int", false},
		{2, "Int", 2, "Int", false},
		{-1, "Int", -1, "Int", false},
		{math.MinInt, "Int", math.MaxInt, "Int", false},
	} {
		a, b := typed(t, x.a), typed(t, x.b)
		if types.Equal(p, x.m, a, x.n, b) != x.want || types.Equal(p, x.n, b, x.m, a) != x.want {
			t.Errorf("P7.3: Equal of %s in %d and %s in %d is not %t", x.a, x.m, x.b, x.n, x.want)
		}
	}
	checkProgram(t, p)
}

// notTypes are trees that are not types, some of which differ little from one.
func notTypes() []api.Tree {
	integer, name, hole := node(api.TInt, ""), node(api.TName, "T"), node(api.Hole, "")
	l := []api.Tree{
		{},
		{Kind: -1},
		{Kind: math.MaxInt},
		{Kind: math.MinInt},
		node(api.Paren+1, ""),
		node(api.Module, "T"),
		node(api.Module, "T", node(api.Alias, "T", integer)),
		node(api.Func, "f", integer, hole),
		node(api.Alias, "T", integer),
		node(api.Alias, "T", name),
		node(api.Param, "x", integer),
		node(api.Num, "1"),
		node(api.Str, `"T"`),
		node(api.Var, "x"),
		node(api.True, ""),
		node(api.False, ""),
		hole,
		node(api.Call, "f"),
		node(api.Arg, "", hole),
		node(api.List, "", hole),
		node(api.If, "", hole, hole, hole),
		node(api.Let, "x", hole, hole),
		node(api.Bin, "+", hole, hole),
		node(api.Paren, "", hole),
		node(api.Paren, "", integer),
		node(api.TList, ""),
		node(api.TList, "", integer, integer),
		node(api.TList, "[", integer),
		node(api.TList, "", hole),
		node(api.TList, "", node(api.Param, "x", integer)),
		node(api.TList, "", api.Tree{}),
		node(api.TName, ""),
		node(api.TName, "t"),
		node(api.TName, "A.t"),
		node(api.TName, "a.T"),
		node(api.TName, "Int"),
		node(api.TName, "A.Int"),
		node(api.TName, "T "),
		node(api.TName, "[T]"),
		node(api.TName, "A.T.T"),
		node(api.TName, "A."),
		node(api.TName, ".T"),
		node(api.TName, strings.Repeat("T", api.MaxName+1)),
		node(api.TName, "T", integer),
		node(api.TName, "T", name),
	}
	for kind := api.TInt; kind <= api.TBool; kind++ {
		l = append(l, node(kind, "Int"), node(kind, "", integer), node(kind, " "))
	}
	for _, x := range slices.Clone(l) {
		l = append(l, node(api.TList, "", x), node(api.TList, "", node(api.TList, "", x)))
	}
	return l
}

func TestNoTypes(t *testing.T) {
	p := program(t, "module A type T = T type U = Int", "module B type T = Int")
	integer := node(api.TInt, "")
	for _, x := range notTypes() {
		for m := -1; m <= 2; m++ {
			checkExpand(t, p, m, x, "arg")
			for n := -1; n <= 2; n++ {
				for _, y := range []api.Tree{x, integer, node(api.TName, "T")} {
					if types.Equal(p, m, x, n, y) || types.Equal(p, n, y, m, x) {
						t.Fatalf("P7.3: Equal of %v in %d and %v in %d", x, m, y, n)
					}
				}
			}
		}
		checkNothing(t, []api.Tree{node(api.Module, "A", node(api.Alias, "T", x))})
	}
}

// TestOtherLists has lists in which a tree is no module, or not of the right
// shape: every type is an error there, whatever it is.
func TestOtherLists(t *testing.T) {
	integer, call := node(api.TInt, ""), node(api.Call, "f")
	f := node(api.Func, "f", integer, call)
	alias := node(api.Alias, "T", node(api.TName, "T"))
	module := node(api.Module, "A", f, alias, node(api.Alias, "U", integer))
	for _, y := range []api.Tree{
		{},
		{Kind: -1, Text: "A", Kids: module.Kids},
		{Kind: math.MaxInt, Text: "A", Kids: module.Kids},
		node(api.Paren+1, "A", module.Kids...),
		f, alias, integer, call, alias.Kids[0],
		node(api.Param, "x", integer),
		node(api.Func, "A", module.Kids...),
		node(api.Module, "", f, alias),
		node(api.Module, "a", f, alias),
		node(api.Module, "A.B", f, alias),
		node(api.Module, "Int", f, alias),
		node(api.Module, strings.Repeat("A", api.MaxName+1), f, alias),
		node(api.Module, "A", module),
		node(api.Module, "A", f, alias, call),
		node(api.Module, "A", f, alias, integer),
		node(api.Module, "A", f, alias, api.Tree{}),
		node(api.Module, "A", alias, node(api.Func, "f")),
		node(api.Module, "A", alias, node(api.Func, "f", integer, integer)),
		node(api.Module, "A", alias, node(api.Func, "T", integer, call)),
		node(api.Module, "A", alias, node(api.Func, "f", integer, node(api.Call, "F"))),
		node(api.Module, "A", alias, node(api.Func, "f", integer, node(api.Paren, "", integer))),
		node(api.Module, "A", f, alias, node(api.Alias, "t", integer)),
		node(api.Module, "A", f, alias, node(api.Alias, "T", call)),
		node(api.Module, "A", f, alias, node(api.Alias, "T")),
		node(api.Module, "A", f, alias, node(api.Alias, "T", integer, integer)),
	} {
		for _, p := range [][]api.Tree{{y}, {y, module}, {module, y}, {module, y, module}, {module, module, y}, {y, y}} {
			checkNothing(t, p)
		}
	}
	checkProgram(t, []api.Tree{module, module})
}
