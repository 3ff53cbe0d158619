package types_test

import (
	"slices"
	"strconv"
	"strings"
	"testing"
	"unsafe"

	"semvcs/api"
	"semvcs/syntax"
	"semvcs/tree"
	"semvcs/types"
)

// nested is a type in so many lists.
func nested(lists int, x api.Tree) api.Tree {
	for range lists {
		x = node(api.TList, "", x)
	}
	return x
}

// peeled returns what stands in the lists of a type, and how many these are,
// also where they are too many for recursion.
func peeled(t *testing.T, x api.Tree) (int, api.Tree) {
	t.Helper()
	lists := 0
	for ; x.Kind == api.TList; lists++ {
		if x.Text != "" || len(x.Leads) != 0 || len(x.Kids) != 1 {
			t.Fatalf("P7.1: in %d lists is %q with %d leads and %d kids", lists, x.Text, len(x.Leads), len(x.Kids))
		}
		x = x.Kids[0]
	}
	return lists, x
}

// TestProgramAtLimits has as many files and definitions as a valid program can
// have: all aliases are in one line, each in a list.
func TestProgramAtLimits(t *testing.T) {
	p := line(api.MaxFiles, api.MaxDefs, node(api.TInt, ""))
	for m := range p {
		x, at, e := syntax.Parse(syntax.Print(withLeads(p[m])))
		if e != api.OK {
			t.Fatalf("error %d at %d", e, at)
		}
		p[m] = x
	}
	for m := range p {
		for d := range p[m].Kids {
			want := nested(m*api.MaxDefs+d+1, node(api.TInt, ""))
			x, e := types.Expand(p, api.MaxFiles-1-m, node(api.TName, p[m].Text+"."+p[m].Kids[d].Text))
			if e != api.OK || !tree.Same(x, want) {
				t.Fatalf("P7.1: Expand of %d, %d is %v, %d", m, d, x, e)
			}
			if types.Circular(p, m, d) {
				t.Fatalf("P7.2: Circular of %d, %d", m, d)
			}
		}
	}
}

// line returns a program in which each alias is a list of the one before it,
// and the first one a list of this type.
func line(modules, defs int, first api.Tree) []api.Tree {
	var p []api.Tree
	for m := range modules {
		module := node(api.Module, "M"+strconv.Itoa(m))
		for d := range defs {
			x := node(api.TName, "T"+strconv.Itoa(d-1))
			switch {
			case m == 0 && d == 0:
				x = first
			case d == 0:
				x = node(api.TName, "M"+strconv.Itoa(m-1)+".T"+strconv.Itoa(defs-1))
			}
			module.Kids = append(module.Kids, node(api.Alias, "T"+strconv.Itoa(d), nested(1, x)))
		}
		p = append(p, module)
	}
	return p
}

// withLeads returns a tree with one blank as each lead.
func withLeads(x api.Tree) api.Tree {
	x.Leads = slices.Repeat([]string{" "}, syntax.Leads(x.Kind, len(x.Kids)))
	x.Kids = slices.Clone(x.Kids)
	for i, k := range x.Kids {
		x.Kids[i] = withLeads(k)
	}
	return x
}

// TestManyAliases has programs of the right shape that are not valid, for limits
// do not matter here: lines of aliases that end, or that come back to one.
func TestManyAliases(t *testing.T) {
	for _, x := range []struct{ modules, defs int }{{1, 3000}, {3000, 1}, {50, 60}} {
		last := node(api.TName, "M"+strconv.Itoa(x.modules-1)+".T"+strconv.Itoa(x.defs-1))
		all := x.modules * x.defs
		p := line(x.modules, x.defs, node(api.TText, ""))
		if syntax.Valid(p[0]) && len(p) <= api.MaxFiles {
			t.Fatal("the program is valid")
		}
		if got, e := types.Expand(p, 0, nested(2, last)); e != api.OK || !tree.Same(got, nested(all+2, node(api.TText, ""))) {
			t.Fatalf("P7.1: Expand of the last one of %d aliases has the error %d", all, e)
		}
		if !types.Equal(p, 0, nested(all, node(api.TText, "")), 0, last) || types.Equal(p, 0, nested(all-1, node(api.TText, "")), 0, last) {
			t.Fatalf("P7.3: Equal of the last one of %d aliases", all)
		}
		checkLine(t, line(x.modules, x.defs, node(api.TName, "T")), last, api.ErrNone, false)
		checkLine(t, line(x.modules, x.defs, node(api.TName, "T0")), last, api.ErrCycle, x.modules == 1 && x.defs == 1)
		checkLine(t, line(x.modules, x.defs, last), last, api.ErrCycle, true)
	}
}

// checkLine checks a line of aliases whose first one has no meaning.
func checkLine(t *testing.T, p []api.Tree, last api.Tree, want api.Errno, circular bool) {
	t.Helper()
	if got, e := types.Expand(p, 0, last); e != want || !tree.Same(got, api.Tree{}) {
		t.Fatalf("P7.1: Expand of %v has the error %d, not %d", last, e, want)
	}
	if types.Circular(p, len(p)-1, len(p[0].Kids)-1) != circular {
		t.Fatalf("P7.2: Circular of %v is not %t", last, circular)
	}
	if types.Equal(p, 0, last, 0, last) {
		t.Fatalf("P7.3: Equal of %v", last)
	}
}

// TestDeepTypes has types and a program with as many levels as rule R10 allows.
func TestDeepTypes(t *testing.T) {
	const lists = 1<<16 - 3
	deep, round := nested(lists, node(api.TName, "M.U")), nested(lists, node(api.TName, "R"))
	p := []api.Tree{node(api.Module, "M", node(api.Alias, "T", deep), node(api.Alias, "U", node(api.TBool, "")), node(api.Alias, "R", round), node(api.Alias, "N", nested(lists, node(api.TName, "O"))))}
	if levels := tree.Depth(p[0]); levels != 1<<16 {
		t.Fatalf("the module has %d levels", levels)
	}
	x, e := types.Expand(p, 0, nested(2, deep))
	if n, inner := peeled(t, x); e != api.OK || n != lists+2 || !tree.Same(inner, node(api.TBool, "")) {
		t.Errorf("P7.1: Expand is %d lists of %v, %d", n, inner, e)
	}
	for name, want := range map[string]api.Errno{"R": api.ErrCycle, "N": api.ErrNone} {
		if x, e := types.Expand(p, 0, nested(lists, node(api.TName, name))); e != want || !tree.Same(x, api.Tree{}) {
			t.Errorf("P7.1: Expand of %s has the error %d", name, e)
		}
	}
	for def, want := range []bool{false, false, true, false} {
		if types.Circular(p, 0, def) != want {
			t.Errorf("P7.2: Circular of %d is not %t", def, want)
		}
	}
	if !types.Equal(p, 0, deep, 0, node(api.TName, "T")) || types.Equal(p, 0, deep, 0, nested(1, node(api.TName, "T"))) {
		t.Error("P7.3: Equal of a deep type")
	}
	for _, bad := range []api.Tree{node(api.TName, "t"), node(api.Hole, ""), {}} {
		if x, e := types.Expand(p, 0, nested(lists, bad)); e != api.ErrArg || !tree.Same(x, api.Tree{}) {
			t.Errorf("P7.1: Expand of a deep tree that is no type has the error %d", e)
		}
	}
}

// TestResultsDeeperThanArguments has types that become far deeper than all that
// they are made of.
func TestResultsDeeperThanArguments(t *testing.T) {
	const lists, modules = 1<<16 - 3, 30
	deep := nested(lists, node(api.TName, "U"))
	p := []api.Tree{node(api.Module, "M", node(api.Alias, "T", deep), node(api.Alias, "U", node(api.TInt, "")))}
	for m := range modules - 1 {
		name := "M" + strconv.Itoa(m)
		last := p[m].Text + ".T"
		p = append(p, node(api.Module, name, node(api.Alias, "T", deep), node(api.Alias, "U", node(api.TName, last))))
	}
	x, e := types.Expand(p, modules-1, node(api.TName, "T"))
	if n, inner := peeled(t, x); e != api.OK || n != modules*lists || !tree.Same(inner, node(api.TInt, "")) {
		t.Errorf("P7.1: Expand is %d lists of %v, %d", n, inner, e)
	}
	if !types.Equal(p, modules-1, node(api.TName, "T"), modules-2, nested(lists, node(api.TName, "T"))) {
		t.Error("P7.3: Equal of two deep types that are the same")
	}
	if types.Equal(p, modules-1, node(api.TName, "T"), modules-2, nested(lists-1, node(api.TName, "T"))) {
		t.Error("P7.3: Equal of two deep types that are not the same")
	}
}

// TestDeepFunctions has functions with many uses at many levels, none of which
// matters.
func TestDeepFunctions(t *testing.T) {
	call := node(api.Call, "f")
	for range 1<<15 - 3 {
		call = node(api.Call, "M.f", node(api.Arg, "", call))
	}
	f := node(api.Func, "f", node(api.Param, "x", node(api.TName, "T")), node(api.TName, "None"), call)
	p := []api.Tree{node(api.Module, "M", f, node(api.Alias, "T", node(api.TName, "U")), f, node(api.Alias, "U", node(api.TInt, "")), node(api.Alias, "V", node(api.TName, "V")))}
	checkExpand(t, p, 0, node(api.TName, "T"), "Int")
	checkExpand(t, p, 0, node(api.TName, "None"), "none")
	checkExpand(t, p, 0, node(api.TName, "M.V"), "cycle")
	checkCircular(t, p, 0, "----+")
}

// span is the memory of a slice, with its spare capacity.
type span struct {
	from, to uintptr
}

// spans returns the memory of all slices of a tree.
func spans(x api.Tree) []span {
	var l []span
	if n := cap(x.Kids); n > 0 {
		from := uintptr(unsafe.Pointer(unsafe.SliceData(x.Kids)))
		l = append(l, span{from, from + uintptr(n)*unsafe.Sizeof(x)})
	}
	if n := cap(x.Leads); n > 0 {
		from := uintptr(unsafe.Pointer(unsafe.SliceData(x.Leads)))
		l = append(l, span{from, from + uintptr(n)*unsafe.Sizeof("")})
	}
	for _, k := range x.Kids {
		l = append(l, spans(k)...)
	}
	return l
}

// checkApart checks that no slice shares memory with one of others.
func checkApart(t *testing.T, l, others []span) {
	t.Helper()
	for _, x := range l {
		for _, y := range others {
			if x.from < y.to && y.from < x.to {
				t.Fatal("R2: results share memory with arguments or with each other")
			}
		}
	}
}

// TestResultsAreNew changes results; neither arguments nor other results, also
// later ones, may change.
func TestResultsAreNew(t *testing.T) {
	p := roomy(program(t, "module A type T = [ [ B.T ] ] type U = [ [Text] ]", "module B type T = [ A.U ]"))
	for _, src := range []string{" [ Int ]", "T", "[ T ]", "[ [A.U] ]", "[[[Bool]]]"} {
		x := roomy([]api.Tree{typed(t, src)})
		a, e := types.Expand(p, 0, x[0])
		b, _ := types.Expand(p, 0, x[0])
		if e != api.OK {
			t.Fatalf("Expand of %s has the error %d", src, e)
		}
		var given []span
		for _, y := range slices.Concat(p, x) {
			given = append(given, spans(y)...)
		}
		checkApart(t, spans(a), given)
		checkApart(t, spans(a), spans(b))
		for l := spans(a); len(l) > 0; l = l[1:] {
			checkApart(t, l[:1], l[1:])
		}
		want := whole(b)
		for y := &a; len(y.Kids) > 0; {
			y.Kind, y.Text, y.Leads = api.Hole, "changed", append(y.Leads, "changed")
			y = &y.Kids[0]
		}
		c, _ := types.Expand(p, 0, x[0])
		if !tree.Same(b, want) || !tree.Same(c, want) {
			t.Errorf("R2: results have changed with other ones")
		}
	}
	checkProgram(t, p)
}

// TestSharedArguments has one slice at several places of the arguments.
func TestSharedArguments(t *testing.T) {
	kids := append([]api.Tree{}, node(api.TName, "U"), node(api.Call, "f"), node(api.Hole, ""))[:2]
	list := node(api.TList, "", kids[:1]...)
	defs := append([]api.Tree{}, node(api.Alias, "T", kids[:1]...), node(api.Func, "f", kids...), node(api.Alias, "U", list), node(api.Alias, "V", list), node(api.Hole, ""))[:4]
	a := node(api.Module, "A", defs...)
	p := append([]api.Tree{}, a, node(api.Module, "B", defs[1:]...), a, node(api.Module, "A", defs[:1]...))[:3]
	checkProgram(t, p)
	checkProgram(t, p[1:2])
	checkExpand(t, p, 0, list, "cycle")
	checkEqual(t, p)
}

// TestParallelCalls calls all functions on the same arguments at once: the race
// detector would tell if an argument was written, or anything was kept.
func TestParallelCalls(t *testing.T) {
	p := roomy(program(t, "module A type T = [B.U] type V = A.V", "module B type U = [Int]"))
	x := roomy([]api.Tree{typed(t, " [ T ]")})[0]
	for range 4 {
		t.Run("", func(t *testing.T) {
			t.Parallel()
			for range 20 {
				checkExpand(t, p, 0, x, "[[[Int]]]")
				checkCircular(t, p, 0, "-+")
				if !types.Equal(p, 0, x, 1, nested(2, node(api.TName, "U"))) {
					t.Error("P7.3: Equal")
				}
			}
		})
	}
}

// TestLongNames has words of the greatest length, one of which begins as
// another one does.
func TestLongNames(t *testing.T) {
	long := strings.Repeat("T", api.MaxName)
	p := program(t, "module "+long+" type "+long+" = Int type "+long[1:]+" = "+long+"."+long+" type U = "+long[2:])
	checkExpand(t, p, 0, node(api.TName, long[1:]), "Int")
	checkExpand(t, p, 0, node(api.TName, "U"), "none")
	checkExpand(t, p, 0, node(api.TName, long+"."+long[1:]), "Int")
	checkExpand(t, p, 0, node(api.TName, long+"T"), "arg")
	checkProgram(t, p)
}
