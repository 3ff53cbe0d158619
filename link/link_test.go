package link_test

import (
	"math"
	"slices"
	"strings"
	"testing"

	"semvcs/api"
	"semvcs/link"
	"semvcs/syntax"
)

func node(kind int, text string, kids ...api.Tree) api.Tree {
	return api.Tree{Kind: kind, Text: text, Kids: kids}
}

// program returns the trees of modules with their leads.
func program(t *testing.T, sources ...string) []api.Tree {
	t.Helper()
	var p []api.Tree
	for _, src := range sources {
		m, at, e := syntax.Parse(src)
		if e != api.OK {
			t.Fatalf("%q: error %d at %d", src, e, at)
		}
		p = append(p, m)
	}
	return p
}

// place is a place: the index of a module, and a path in it.
func place(module int, path ...int) api.Place { return api.Place{Module: module, Path: path} }

// to is a use that refers to a definition, and free one that does not.
func to(module, def int, use api.Place) api.Target {
	return api.Target{Use: use, Module: module, Def: def}
}

func free(module int, path ...int) api.Target {
	return api.Target{Use: place(module, path...), Free: true}
}

func TestExamples(t *testing.T) {
	p := program(t, "module A def f(): Int = B.g(f())", "module B def g(x: Int): Int = f()")
	checkTargets(t, p, to(1, 0, place(0, 0, 1)), to(0, 0, place(0, 0, 1, 0, 0)), free(1, 0, 2))
	if got := link.Uses(p, 0, 0); !slices.EqualFunc(got, []api.Place{place(0, 0, 1, 0, 0)}, samePlace) {
		t.Errorf("P6.3: Uses is %v", got)
	}
}

// checkTargets checks that a program has these uses, and all that the
// definitions say of it.
func checkTargets(t *testing.T, p []api.Tree, want ...api.Target) {
	t.Helper()
	if got := link.Targets(p); !slices.EqualFunc(got, want, sameTarget) {
		t.Errorf("P6.2: Targets(%v) is\n%v, not\n%v", p, got, want)
	}
	checkProgram(t, p)
}

// TestUsesOfOneModule has the places where uses can stand, and what looks like
// one.
func TestUsesOfOneModule(t *testing.T) {
	for _, x := range []struct {
		src  string
		want []api.Target
	}{
		{"module M", nil},
		{"module M def f(): Int = 1", nil},
		{"module M type T = Int", nil},
		{"module M type T = [[Bool]]", nil},
		{"module M def f(f: Int): Text = let f = f + \"f\" in if true then [f, 1] else (? < f)", nil},
		{"module M def f(): Int = f()", []api.Target{to(0, 0, place(0, 0, 1))}},
		{"module M def f(): Int = M.f()", []api.Target{to(0, 0, place(0, 0, 1))}},
		{"module M def f(): Int = g()", []api.Target{free(0, 0, 1)}},
		{"module M def f(): Int = N.f()", []api.Target{free(0, 0, 1)}},
		{"module M type T = T", []api.Target{to(0, 0, place(0, 0, 0))}},
		{"module M type T = [M.T]", []api.Target{to(0, 0, place(0, 0, 0, 0))}},
		{"module M type T = U", []api.Target{free(0, 0, 0)}},
		{"module M type T = M", []api.Target{free(0, 0, 0)}},
		{"module M type M = M", []api.Target{to(0, 0, place(0, 0, 0))}},
		{"module M type M = M.M", []api.Target{to(0, 0, place(0, 0, 0))}},
		// The name of a parameter or of a let is not one of a function.
		{"module M def f(g: Int): Int = let h = 1 in g(h())", []api.Target{free(0, 0, 2, 1), free(0, 0, 2, 1, 0, 0)}},
		{"module M def f(f: Int): Int = let f = 1 in f(f)", []api.Target{to(0, 0, place(0, 0, 2, 1))}},
		// Words are not the same if one of them begins with the other one.
		{"module M def f(): Int = ff() def ff(): Int = f() type T = TT", []api.Target{
			to(0, 1, place(0, 0, 1)), to(0, 0, place(0, 1, 1)), free(0, 2, 0)}},
	} {
		checkTargets(t, program(t, x.src), x.want...)
	}
}

// TestPreorder has uses at all places of a function where they can stand.
func TestPreorder(t *testing.T) {
	p := program(t, `module M
type T = Int
def f(x: T, y: [[U]], z: [T]): [T] =
  let a = f(f(), x, g(h() + f())) in
  if M.f() then [f(), (g())] else f() < f() < (let b = f() in f())
def g(): U = 1
type U = [T]`)
	checkTargets(t, p,
		to(0, 0, place(0, 1, 0, 0)),
		to(0, 3, place(0, 1, 1, 0, 0, 0)),
		to(0, 0, place(0, 1, 2, 0, 0)),
		to(0, 0, place(0, 1, 3, 0)),
		to(0, 1, place(0, 1, 4, 0)),
		to(0, 1, place(0, 1, 4, 0, 0, 0)),
		to(0, 2, place(0, 1, 4, 0, 2, 0)),
		free(0, 1, 4, 0, 2, 0, 0, 0, 0),
		to(0, 1, place(0, 1, 4, 0, 2, 0, 0, 0, 1)),
		to(0, 1, place(0, 1, 4, 1, 0)),
		to(0, 1, place(0, 1, 4, 1, 1, 0)),
		to(0, 2, place(0, 1, 4, 1, 1, 1, 0)),
		to(0, 1, place(0, 1, 4, 1, 2, 0, 0)),
		to(0, 1, place(0, 1, 4, 1, 2, 0, 1)),
		to(0, 1, place(0, 1, 4, 1, 2, 1, 0, 0)),
		to(0, 1, place(0, 1, 4, 1, 2, 1, 0, 1)),
		to(0, 3, place(0, 2, 0)),
		to(0, 0, place(0, 3, 0, 0)))
	for def, want := range [][]api.Place{
		{place(0, 1, 0, 0), place(0, 1, 2, 0, 0), place(0, 1, 3, 0), place(0, 3, 0, 0)},
		{place(0, 1, 4, 0), place(0, 1, 4, 0, 0, 0), place(0, 1, 4, 0, 2, 0, 0, 0, 1), place(0, 1, 4, 1, 0), place(0, 1, 4, 1, 1, 0),
			place(0, 1, 4, 1, 2, 0, 0), place(0, 1, 4, 1, 2, 0, 1), place(0, 1, 4, 1, 2, 1, 0, 0), place(0, 1, 4, 1, 2, 1, 0, 1)},
		{place(0, 1, 4, 0, 2, 0), place(0, 1, 4, 1, 1, 1, 0)},
		{place(0, 1, 1, 0, 0, 0), place(0, 2, 0)},
		nil,
	} {
		if got := link.Uses(p, 0, def); !slices.EqualFunc(got, want, samePlace) {
			t.Errorf("P6.3: Uses of %d is %v, not %v", def, got, want)
		}
	}
}

func TestModules(t *testing.T) {
	p := program(t,
		"module A def f(): B.T = B.f(f(), g(), A.g(), C.f()) type T = T",
		"module B type T = A.T def g(): T = A.f() def f(x: A.U): Int = g(f())",
		"module D def h(): A.B = h(D.h(), B.g())")
	checkTargets(t, p,
		to(1, 0, place(0, 0, 0)), to(1, 2, place(0, 0, 1)), to(0, 0, place(0, 0, 1, 0, 0)),
		free(0, 0, 1, 1, 0), free(0, 0, 1, 2, 0), free(0, 0, 1, 3, 0), to(0, 1, place(0, 1, 0)),
		to(0, 1, place(1, 0, 0)), to(1, 0, place(1, 1, 0)), to(0, 0, place(1, 1, 1)),
		free(1, 2, 0, 0), to(1, 1, place(1, 2, 2)), to(1, 2, place(1, 2, 2, 0, 0)),
		free(2, 0, 0), to(2, 0, place(2, 0, 1)), to(2, 0, place(2, 0, 1, 0, 0)), to(1, 1, place(2, 0, 1, 1, 0)))
	checkTargets(t, nil)
	checkTargets(t, []api.Tree{})
	checkTargets(t, program(t, "module A", "module B", "module A"))
}

// TestModulesOfOneName has several modules of a name: the first one is meant by
// the name, but each one's own words mean its own definitions.
func TestModulesOfOneName(t *testing.T) {
	p := program(t,
		"module B def f(): Int = A.f()",
		"module A def g(): Int = A.f(g())",
		"module A def f(): A.T = f(A.f(), A.g(), g(), B.f()) type T = T",
		"module A def g(): Int = g(A.g(), f())")
	checkTargets(t, p,
		free(0, 0, 1),
		free(1, 0, 1), to(1, 0, place(1, 0, 1, 0, 0)),
		free(2, 0, 0), to(2, 0, place(2, 0, 1)), free(2, 0, 1, 0, 0), to(1, 0, place(2, 0, 1, 1, 0)), free(2, 0, 1, 2, 0), to(0, 0, place(2, 0, 1, 3, 0)),
		to(2, 1, place(2, 1, 0)),
		to(3, 0, place(3, 0, 1)), to(1, 0, place(3, 0, 1, 0, 0)), free(3, 0, 1, 1, 0))
}

// TestDefinitionsOfOneName has several definitions of a name: the first one is
// meant.
func TestDefinitionsOfOneName(t *testing.T) {
	p := program(t,
		"module A def g(): T = f() type T = Int def f(): Int = f() def f(): U = A.f() type T = T def f(x: A.T): Int = x",
		"module B def f(): A.T = A.f()")
	checkTargets(t, p,
		to(0, 1, place(0, 0, 0)), to(0, 2, place(0, 0, 1)), to(0, 2, place(0, 2, 1)),
		free(0, 3, 0), to(0, 2, place(0, 3, 1)), to(0, 1, place(0, 4, 0)), to(0, 1, place(0, 5, 0, 0)),
		to(0, 1, place(1, 0, 0)), to(0, 2, place(1, 0, 1)))
	for _, def := range []int{0, 3, 4, 5} {
		if got := link.Uses(p, 0, def); len(got) != 0 {
			t.Errorf("Consequences: Uses of 0, %d is %v", def, got)
		}
	}
}

func TestLookup(t *testing.T) {
	p := program(t,
		"module A def f(): Int = 1 type A = Int def g(): Int = 2",
		"module B type B = Int def g(): Int = 3 def f(): Int = 4 def g(): Int = 5",
		"module A def h(): Int = 6 def f(): Int = 7",
		"module C")
	for _, x := range []struct {
		word string
		want string // what it means in each module: module and definition
	}{
		{"f", "00 12 21 --"},
		{"g", "02 11 -- --"},
		{"h", "-- -- 20 --"},
		{"A", "01 -- -- --"},
		{"B", "-- 10 -- --"},
		{"C", "-- -- -- --"},
		{"A.f", "00 00 00 00"},
		{"A.A", "01 01 01 01"},
		{"A.g", "02 02 02 02"},
		{"A.h", "-- -- -- --"},
		{"A.B", "-- -- -- --"},
		{"B.B", "10 10 10 10"},
		{"B.g", "11 11 11 11"},
		{"B.f", "12 12 12 12"},
		{"B.A", "-- -- -- --"},
		{"C.f", "-- -- -- --"},
		{"D.f", "-- -- -- --"},
	} {
		for m, want := range strings.Fields(x.want) {
			checkLookup(t, p, m, x.word, want)
		}
		for _, m := range []int{-1, 4, 5, math.MaxInt, math.MinInt} {
			checkLookup(t, p, m, x.word, "--")
		}
	}
	checkProgram(t, p)
}

// checkLookup checks what a word means in a module: two digits, or --.
func checkLookup(t *testing.T, p []api.Tree, module int, word, want string) {
	t.Helper()
	m, d, ok := link.Lookup(p, module, word)
	got := "--"
	if ok {
		got = string([]byte{'0' + byte(m), '0' + byte(d)})
	}
	if got != want || !ok && (m != 0 || d != 0) {
		t.Errorf("P6.1: Lookup(p, %d, %q) is %d, %d, %t, not %s", module, word, m, d, ok, want)
	}
}

// TestTextsThatAreNoWords has texts that no definition is called.
func TestTextsThatAreNoWords(t *testing.T) {
	p := program(t, "module A def f(): Int = f(1, \"s\") type A = A", "module B def g(x: Int): Int = A.f(let y = x in y)")
	for _, word := range []string{
		"", ".", "..", "A.", ".A", ".f", "A..f", "A.f.", ".A.f", "A.A.f", "A.A.A", "f.f", "f.A", "A.f.f", "A.f.A", "Af", "A f", "A. f", "A .f", " f", "f ", "F", "a",
		"f\x00", "\x00f", "f\xff", "A:f", "A.f()", "f()", "1", "\"s\"", "x", "y", "+", "(", "Int", "def", "module", "A.Int", "A.def", "A.x", "\n", strings.Repeat("f", 1000),
	} {
		for m := -1; m <= 2; m++ {
			checkLookup(t, p, m, word, "--")
		}
	}
}

func TestIndicesOfNoDefinition(t *testing.T) {
	p := program(t, "module A def f(): Int = g()", "module B def g(): Int = A.f()")
	for _, at := range [][2]int{
		{0, 1}, {0, -1}, {1, 0}, {1, 1}, {1, -1}, {2, 0}, {-1, 0}, {-1, -1}, {2, 2},
		{0, math.MaxInt}, {0, math.MinInt}, {math.MaxInt, 0}, {math.MinInt, 0}, {math.MinInt, math.MinInt},
	} {
		if got := link.Uses(p, at[0], at[1]); len(got) != 0 {
			t.Errorf("P6.3: Uses of %v is %v", at, got)
		}
	}
	checkTargets(t, p, free(0, 0, 1), to(0, 0, place(1, 0, 1)))
	// A free use has the indices of a definition that it does not refer to.
	checkTargets(t, program(t, "module A def f(): T = g(B.g())"), free(0, 0, 0), free(0, 0, 1), free(0, 0, 1, 0, 0))
	checkTargets(t, program(t, "module A type T = U", "module B def g(): A.U = A.f()"), free(0, 0, 0), free(1, 0, 0), free(1, 0, 1))
}

// TestOtherLists has lists in which a tree is no module, or not of the right
// shape.
func TestOtherLists(t *testing.T) {
	integer, call := node(api.TInt, ""), node(api.Call, "f")
	f := node(api.Func, "f", integer, call)
	alias := node(api.Alias, "T", node(api.TName, "T"))
	module := node(api.Module, "A", f, alias)
	for _, y := range []api.Tree{
		{},
		{Kind: -1},
		{Kind: math.MaxInt, Text: "A", Kids: module.Kids},
		node(api.Paren+1, "A", module.Kids...),
		f, alias, integer, call, alias.Kids[0],
		node(api.Param, "x", integer),
		node(api.Arg, "", call),
		node(api.List, "", call),
		node(api.Paren, "", call),
		node(api.Let, "x", call, call),
		node(api.Func, "A", module.Kids...),
		node(api.Module, "", f, alias),
		node(api.Module, "a", f, alias),
		node(api.Module, "A.B", f, alias),
		node(api.Module, "Int", f, alias),
		node(api.Module, "A ", f, alias),
		node(api.Module, strings.Repeat("A", api.MaxName+1), f, alias),
		node(api.Module, "A", module),
		node(api.Module, "A", f, alias, call),
		node(api.Module, "A", f, alias, node(api.Param, "x", integer)),
		node(api.Module, "A", f, alias, api.Tree{}),
		node(api.Module, "A", f, alias, node(api.Func, "f")),
		node(api.Module, "A", f, alias, node(api.Func, "f", integer, integer)),
		node(api.Module, "A", f, alias, node(api.Func, "F", integer, call)),
		node(api.Module, "A", f, alias, node(api.Alias, "t", integer)),
		node(api.Module, "A", f, alias, node(api.Alias, "T", call)),
		node(api.Module, "A", f, alias, node(api.Alias, "T")),
		node(api.Module, "A", f, node(api.Func, "f", integer, node(api.Call, "f", call))),
		node(api.Module, "A", f, node(api.Func, "f", integer, node(api.Call, "T"))),
		node(api.Module, "A", f, node(api.Func, "f", node(api.TName, "f"), call)),
		node(api.Module, "A", f, node(api.Func, "f", node(api.TList, ""), call)),
	} {
		for _, p := range [][]api.Tree{{y}, {y, module}, {module, y}, {module, y, module}, {module, module, y}, {y, y}} {
			checkNothing(t, p)
		}
	}
	checkTargets(t, []api.Tree{module, module},
		to(0, 0, place(0, 0, 1)), to(0, 1, place(0, 1, 0)), to(1, 0, place(1, 0, 1)), to(1, 1, place(1, 1, 0)))
}
