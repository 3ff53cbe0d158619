package link_test

import (
	"slices"
	"strconv"
	"testing"
	"unsafe"

	"semvcs/api"
	"semvcs/link"
	"semvcs/syntax"
	"semvcs/tree"
)

// TestBeyondLimits has programs of the right shape that are not valid, for
// limits do not matter here.
func TestBeyondLimits(t *testing.T) {
	const modules, defs = 2 * api.MaxFiles, 2 * api.MaxDefs
	var p []api.Tree
	for m := range modules {
		module := node(api.Module, "M"+strconv.Itoa(m))
		for d := range defs {
			last := node(api.Call, "M"+strconv.Itoa(modules-1-m)+".f"+strconv.Itoa(defs-1-d))
			args := slices.Repeat([]api.Tree{node(api.Arg, "", node(api.Num, "1"))}, 2*api.MaxParams)
			call := node(api.Call, "f"+strconv.Itoa(d), append(args, node(api.Arg, "", last))...)
			module.Kids = append(module.Kids, node(api.Func, "f"+strconv.Itoa(d), node(api.TInt, ""), call))
		}
		if syntax.Valid(module) {
			t.Fatal("the module is valid")
		}
		p = append(p, module)
	}
	var want []api.Target
	for m := range modules {
		for d := range defs {
			want = append(want, to(m, d, place(m, d, 1)), to(modules-1-m, defs-1-d, place(m, d, 1, 2*api.MaxParams, 0)))
		}
	}
	if got := link.Targets(p); !slices.EqualFunc(got, want, sameTarget) {
		t.Errorf("P6.2: Targets is %v", got)
	}
	if got := link.Uses(p, 15, 70); !slices.EqualFunc(got, []api.Place{place(0, 9, 1, 16, 0), place(15, 70, 1)}, samePlace) {
		t.Errorf("P6.3: Uses is %v", got)
	}
	if m, d, ok := link.Lookup(p, 3, "M15.f79"); m != 15 || d != 79 || !ok {
		t.Errorf("P6.1: Lookup is %d, %d, %t", m, d, ok)
	}
}

// TestDeepPrograms has as many levels as rule R10 allows.
func TestDeepPrograms(t *testing.T) {
	const lists = 1<<16 - 3
	named, call := node(api.TName, "M.T"), node(api.Call, "f")
	for range lists {
		named, call = node(api.TList, "", named), node(api.Paren, "", call)
	}
	p := []api.Tree{node(api.Module, "M", node(api.Func, "f", named, call), node(api.Alias, "T", named), node(api.Alias, "T", named))}
	if levels := tree.Depth(p[0]); levels != 1<<16 {
		t.Fatalf("the module has %d levels", levels)
	}
	deep := func(first ...int) api.Place {
		return place(0, append(first, make([]int, lists)...)...)
	}
	want := []api.Target{to(0, 1, deep(0, 0)), to(0, 0, deep(0, 1)), to(0, 1, deep(1, 0)), to(0, 1, deep(2, 0))}
	if got := link.Targets(p); !slices.EqualFunc(got, want, sameTarget) {
		t.Errorf("P6.2: Targets is wrong: it has %d uses", len(got))
	}
	if got := link.Uses(p, 0, 0); !slices.EqualFunc(got, []api.Place{deep(0, 1)}, samePlace) {
		t.Errorf("P6.3: Uses is wrong: it has %d places", len(got))
	}
	if m, d, ok := link.Lookup(p, 0, "M.T"); m != 0 || d != 1 || !ok {
		t.Errorf("P6.1: Lookup is %d, %d, %t", m, d, ok)
	}
	bad := node(api.TName, "t")
	for range lists {
		bad = node(api.TList, "", bad)
	}
	if got := link.Targets([]api.Tree{p[0], node(api.Module, "N", node(api.Alias, "T", bad))}); len(got) != 0 {
		t.Errorf("P6.2: Targets of a list with a tree that is not of the right shape has %d uses", len(got))
	}
}

// TestNestedCalls has uses in uses.
func TestNestedCalls(t *testing.T) {
	const calls = 1000
	call := node(api.Call, "N.g")
	for range calls - 1 {
		call = node(api.Call, "f", node(api.Arg, "", call))
	}
	p := []api.Tree{node(api.Module, "M", node(api.Func, "g", node(api.TInt, ""), call), node(api.Func, "f", node(api.TInt, ""), call))}
	got := link.Targets(p)
	if len(got) != 2*calls {
		t.Fatalf("P6.2: there are %d uses", len(got))
	}
	for i, x := range got {
		at := place(0, append([]int{i / calls, 1}, make([]int, 2*(i%calls))...)...)
		want := to(0, 1, at)
		if i%calls == calls-1 {
			want = api.Target{Use: at, Free: true}
		}
		if !sameTarget(x, want) {
			t.Fatalf("P6.2: use %d is wrong", i)
		}
	}
	if got := link.Uses(p, 0, 1); len(got) != 2*calls-2 {
		t.Errorf("P6.3: there are %d uses", len(got))
	}
}

// TestManyDefinitions has many definitions and uses, also of one name each, in
// one module and in many ones.
func TestManyDefinitions(t *testing.T) {
	const many = 1 << 11
	one := node(api.Module, "M")
	var p []api.Tree
	for i := range many {
		text := "T" + strconv.Itoa(i/2)
		use := node(api.TName, "T"+strconv.Itoa(many-1-i))
		one.Kids = append(one.Kids, node(api.Alias, text, use))
		p = append(p, node(api.Module, text, node(api.Alias, text, node(api.TName, use.Text+"."+use.Text))))
	}
	inOne, inMany := link.Targets([]api.Tree{one}), link.Targets(p)
	if len(inOne) != many || len(inMany) != many {
		t.Fatalf("P6.2: there are %d and %d uses", len(inOne), len(inMany))
	}
	for i := range many {
		wantOne, wantMany := free(0, i, 0), free(i, 0, 0)
		if n := many - 1 - i; n < many/2 {
			wantOne, wantMany = to(0, 2*n, place(0, i, 0)), to(2*n, 0, place(i, 0, 0))
		}
		if !sameTarget(inOne[i], wantOne) || !sameTarget(inMany[i], wantMany) {
			t.Fatalf("P6.2: use %d is %v and %v, not %v and %v", i, inOne[i], inMany[i], wantOne, wantMany)
		}
	}
}

// span is the memory of a slice, with its spare capacity.
type span struct {
	from, to uintptr
}

func spanOf[E any](l []E) []span {
	if cap(l) == 0 {
		return nil
	}
	var e E
	from := uintptr(unsafe.Pointer(unsafe.SliceData(l)))
	return []span{{from, from + uintptr(cap(l))*unsafe.Sizeof(e)}}
}

// checkApart checks that no two slices share memory.
func checkApart(t *testing.T, l []span) {
	t.Helper()
	for i, x := range l {
		for _, y := range l[:i] {
			if x.from < y.to && y.from < x.to {
				t.Fatal("R2: results share memory")
			}
		}
	}
}

// TestResultsAreNew changes results; neither arguments nor other results, also
// later ones, may change.
func TestResultsAreNew(t *testing.T) {
	p := roomy(program(t,
		"module A def f(x: T, y: [T]): T = f(f(f(1, 2), f(3, 4)), B.f(g(), g())) type T = A.T",
		"module B def f(): A.T = f(A.f(f()), f(), f())"))
	targets, again := link.Targets(p), link.Targets(p)
	used, usedAgain := link.Uses(p, 0, 0), link.Uses(p, 0, 0)
	spans := slices.Concat(spanOf(targets), spanOf(again), spanOf(used), spanOf(usedAgain))
	for _, x := range slices.Concat(targets, again) {
		spans = append(spans, spanOf(x.Use.Path)...)
	}
	for _, x := range slices.Concat(used, usedAgain) {
		spans = append(spans, spanOf(x.Path)...)
	}
	checkApart(t, spans)

	for _, x := range targets {
		clear(x.Use.Path[:cap(x.Use.Path)])
	}
	for _, x := range used {
		clear(x.Path[:cap(x.Path)])
	}
	clear(targets[:cap(targets)])
	clear(used[:cap(used)])
	if !slices.EqualFunc(link.Targets(p), again, sameTarget) || !slices.EqualFunc(link.Uses(p, 0, 0), usedAgain, samePlace) {
		t.Error("R2: results have changed with other ones")
	}
	checkProgram(t, p)
}

// TestSharedArguments has one slice at several places of the arguments.
func TestSharedArguments(t *testing.T) {
	kids := append([]api.Tree{}, node(api.TName, "T"), node(api.Call, "f"), node(api.Hole, ""))[:2]
	defs := append([]api.Tree{}, node(api.Func, "f", kids...), node(api.Alias, "T", kids[:1]...), node(api.Func, "f", kids...), node(api.Hole, ""))[:3]
	a := node(api.Module, "A", defs...)
	p := append([]api.Tree{}, a, node(api.Module, "B", defs[1:]...), a, node(api.Module, "A", defs[:1]...))[:3]
	checkProgram(t, p)
	checkProgram(t, p[1:2])
}

// TestParallelCalls calls all functions on the same arguments at once: the race
// detector would tell if an argument was written, or anything was kept.
func TestParallelCalls(t *testing.T) {
	p := roomy(program(t, "module A def f(): Int = B.g(f())", "module B def g(x: Int): Int = f()"))
	for range 4 {
		t.Run("", func(t *testing.T) {
			t.Parallel()
			for range 20 {
				checkTargets(t, p, to(1, 0, place(0, 0, 1)), to(0, 0, place(0, 0, 1, 0, 0)), free(1, 0, 2))
			}
		})
	}
}
