package scope_test

import (
	"slices"
	"strconv"
	"testing"
	"unsafe"

	"semvcs/api"
	"semvcs/scope"
	"semvcs/syntax"
	"semvcs/tree"
)

// TestBeyondLimits has functions of the right shape that are not valid, for
// limits do not matter here.
func TestBeyondLimits(t *testing.T) {
	var kids []api.Tree
	for i := range 3 * api.MaxParams {
		kids = append(kids, node(api.Param, "x"+strconv.Itoa(i%(2*api.MaxParams)), node(api.TInt, "")))
	}
	body := node(api.Var, "x3")
	for range api.MaxDepth {
		body = node(api.Let, "y", node(api.Var, "y"), node(api.Paren, "", body))
	}
	items := slices.Repeat([]api.Tree{node(api.Var, "x15"), body}, api.MaxItems)
	f := node(api.Func, "f", append(kids, node(api.TInt, ""), node(api.List, "", items...))...)
	if syntax.Valid(f) {
		t.Fatal("the function is valid")
	}
	got := scope.Variables(f)
	if len(got) != api.MaxItems*(api.MaxDepth+2) {
		t.Fatalf("P5.2: there are %d variables", len(got))
	}
	last := len(f.Kids) - 1
	if !sameVariable(got[0], bound(path(last, 0), path(2*api.MaxParams-1))) || !sameVariable(got[1], free(last, 1, 0)) {
		t.Errorf("P5.2: the first variables are %v, %v", got[0], got[1])
	}
	deep := longer(path(last, 1), slices.Repeat(path(1, 0), api.MaxDepth)...)
	if !sameVariable(got[api.MaxDepth+1], bound(deep, path(3))) {
		t.Errorf("P5.2: the deepest variable is %v", got[api.MaxDepth+1])
	}
	if got, ok := scope.Binder(f, deep, "y"); !ok || !slices.Equal(got, deep[:len(deep)-2]) {
		t.Errorf("P5.1: Binder is %v, %t", got, ok)
	}
	if got := scope.Visible(f, deep); len(got) != 2*api.MaxParams+1 || !slices.IsSorted(got) {
		t.Errorf("P5.3: Visible is %q", got)
	}
}

// TestDeepFunctions has as many levels as rule R10 allows.
func TestDeepFunctions(t *testing.T) {
	const lets = 1<<16 - 2
	name := func(i int) string { return "x" + strconv.Itoa(i%100) }
	body := node(api.List, "", node(api.Var, "x0"), node(api.Var, "x99"), node(api.Var, "y"), node(api.Var, "z"))
	for i := range lets - 1 {
		body = node(api.Let, name(lets-2-i), node(api.Num, "1"), body)
	}
	f := node(api.Func, "f", node(api.Param, "y", node(api.TInt, "")), node(api.TInt, ""), body)
	if levels := tree.Depth(f); levels != 1<<16 {
		t.Fatalf("the function has %d levels", levels)
	}
	at := longer(path(2), slices.Repeat(path(1), lets-1)...) // of the list
	// The Let with the number i is at[:i+1].
	zero, ninetyNine := (lets-2)/100*100, (lets-2-99)/100*100+99
	checkDeep(t, f,
		bound(longer(at, 0), at[:zero+1]),
		bound(longer(at, 1), at[:ninetyNine+1]),
		bound(longer(at, 2), path(0)),
		free(longer(at, 3)...))
	if got := scope.Visible(f, at); len(got) != 101 || !slices.IsSorted(got) || got[100] != "y" {
		t.Errorf("P5.3: Visible is %q", got)
	}
	if got := scope.Visible(f, at[:2]); !slices.Equal(got, []string{"x0", "y"}) {
		t.Errorf("P5.3: Visible is %q", got)
	}
	checkNone(t, f, longer(at, 4))
	checkNone(t, f, longer(at, 0, 0))
	checkNone(t, f, longer(at[:len(at)-1], 0, 0))
}

// TestDeepValues has lets in the values of lets, where they see nothing.
func TestDeepValues(t *testing.T) {
	const lets = 1<<16 - 3
	body := node(api.Let, "x", node(api.Var, "x"), node(api.Var, "x"))
	for range lets - 1 {
		body = node(api.Let, "x", body, node(api.Num, "1"))
	}
	f := node(api.Func, "f", node(api.Param, "y", node(api.TInt, "")), node(api.TInt, ""), body)
	at := longer(path(2), make([]int, lets-1)...)
	checkDeep(t, f, free(longer(at, 0)...), bound(longer(at, 1), at))
	if got := scope.Visible(f, longer(at, 0)); !slices.Equal(got, []string{"y"}) {
		t.Errorf("P5.3: Visible is %q", got)
	}
	if got := scope.Visible(f, longer(at, 1)); !slices.Equal(got, []string{"x", "y"}) {
		t.Errorf("P5.3: Visible is %q", got)
	}
}

// checkDeep checks the variables of a deep function, without printing them.
func checkDeep(t *testing.T, f api.Tree, want ...api.Variable) {
	t.Helper()
	got := scope.Variables(f)
	if len(got) != len(want) {
		t.Fatalf("P5.2: there are %d variables", len(got))
	}
	for i, v := range want {
		if !sameVariable(got[i], v) {
			t.Errorf("P5.2: variable %d is wrong: its binder has %d levels, not %d", i, len(got[i].Binder), len(v.Binder))
		}
		n, _ := tree.At(f, v.Path)
		if b, ok := scope.Binder(f, v.Path, n.Text); ok == v.Free || !slices.Equal(b, v.Binder) {
			t.Errorf("P5.1: the binder of variable %d is wrong: it has %d levels, not %d", i, len(b), len(v.Binder))
		}
	}
}

func TestWideFunctions(t *testing.T) {
	const many = 1 << 12
	var kids []api.Tree
	for i := range many {
		kids = append(kids, node(api.Param, "x"+strconv.Itoa(i/2), node(api.TInt, "")))
	}
	var variables []api.Tree
	for i := range many {
		variables = append(variables, node(api.Var, "x"+strconv.Itoa(many-1-i)))
	}
	f := node(api.Func, "f", append(kids, node(api.TInt, ""), node(api.List, "", variables...))...)
	got := scope.Variables(f)
	if len(got) != many {
		t.Fatalf("P5.2: there are %d variables", len(got))
	}
	for i, v := range got {
		want := free(many+1, i)
		if n := many - 1 - i; n < many/2 {
			want = bound(path(many+1, i), path(2*n))
		}
		if !sameVariable(v, want) {
			t.Fatalf("P5.2: variable %d is %v, not %v", i, v, want)
		}
	}
	if l := scope.Visible(f, path(many+1)); len(l) != many/2 || !slices.IsSorted(l) || len(slices.Compact(l)) != many/2 {
		t.Errorf("P5.3: %d names are visible", len(l))
	}
}

// span is the memory of a slice, with its spare capacity.
type span struct {
	from, to uintptr
}

func spanOf[E any](l []E) []span {
	if cap(l) == 0 {
		return nil
	}
	var e E
	from := uintptr(unsafe.Pointer(unsafe.SliceData(l)))
	return []span{{from, from + uintptr(cap(l))*unsafe.Sizeof(e)}}
}

func spansOfVariables(l []api.Variable) []span {
	spans := spanOf(l)
	for _, v := range l {
		spans = slices.Concat(spans, spanOf(v.Path), spanOf(v.Binder))
	}
	return spans
}

// checkApart checks that no two slices share memory.
func checkApart(t *testing.T, call string, l []span) {
	t.Helper()
	for i, x := range l {
		for _, y := range l[:i] {
			if x.from < y.to && y.from < x.to {
				t.Fatalf("R2: %s shares memory", call)
			}
		}
	}
}

// TestResultsAreNew changes results; neither arguments nor other results, also
// later ones, may change.
func TestResultsAreNew(t *testing.T) {
	f := function(t, "def f(x: Int, y: Int): Int = let z = x + x in [z, z, y, y, let x = z in x + x + f(w, w)]")
	at := append(path(3, 1, 4, 1), 0, 0, 0)[:4]
	variables, visible := scope.Variables(f), scope.Visible(f, at)
	var results [][]int
	for _, name := range visible {
		b, _ := scope.Binder(f, at, name)
		again, _ := scope.Binder(f, at, name)
		results = append(results, b, again)
	}
	spans := slices.Concat(spansOfVariables(variables), spanOf(visible), spanOf(at))
	for _, b := range results {
		spans = append(spans, spanOf(b)...)
	}
	checkApart(t, "a result", append(spans, spansOfVariables(scope.Variables(f))...))

	for _, v := range variables {
		clear(v.Path[:cap(v.Path)])
		clear(v.Binder[:cap(v.Binder)])
	}
	clear(variables)
	clear(visible)
	for _, b := range results {
		clear(b[:cap(b)])
	}
	if !slices.Equal(at, path(3, 1, 4, 1)) {
		t.Errorf("R2: the path is %v", at)
	}
	checkFunction(t, f)
	checkFunction(t, roomy(f))
}

// TestSharedArguments has one slice at several places of the arguments.
func TestSharedArguments(t *testing.T) {
	x := node(api.Var, "x")
	kids := append([]api.Tree{}, x, node(api.Let, "y", x, x), x)[:2]
	let := node(api.Let, "x", kids...)
	f := node(api.Func, "f", append([]api.Tree{}, node(api.TInt, ""), node(api.If, "", let, node(api.List, "", kids...), node(api.Let, "y", kids...)), x)[:2]...)
	checkFunction(t, f)

	// A path, a part of it, and what lies behind that.
	at := path(1, 0, 1, 1, 9)
	for n := range at {
		scope.Binder(f, at[:n], "x")
		scope.Visible(f, at[:n])
	}
	if !slices.Equal(at, path(1, 0, 1, 1, 9)) {
		t.Errorf("R2: the path is %v", at)
	}
}

// TestParallelCalls calls all functions on the same arguments at once: the race
// detector would tell if an argument was written, or anything was kept.
func TestParallelCalls(t *testing.T) {
	f := roomy(function(t, "def f(x: Int, y: Int): Int = let z = x in let x = y in z + x"))
	at := path(3, 1, 1)
	for range 4 {
		t.Run("", func(t *testing.T) {
			t.Parallel()
			for range 20 {
				checkVariables(t, f, bound(path(3, 0), path(0)), bound(path(3, 1, 0), path(1)),
					bound(path(3, 1, 1, 0), path(3)), bound(path(3, 1, 1, 1), path(3, 1)))
				if got := scope.Visible(f, at); !slices.Equal(got, []string{"x", "y", "z"}) {
					t.Errorf("P5.3: Visible is %q", got)
				}
			}
		})
	}
}
