package scope_test

import (
	"math"
	"slices"
	"testing"

	"semvcs/api"
	"semvcs/scope"
	"semvcs/syntax"
	"semvcs/tree"
)

// item is a node with its path.
type item struct {
	path []int
	node api.Tree
}

// items returns all nodes of a tree in preorder.
func items(t api.Tree) []item {
	var l []item
	for _, p := range tree.Paths(t) {
		n, _ := tree.At(t, p)
		l = append(l, item{p, n})
	}
	return l
}

// isPart reports whether the node at a path is the one at the path whole, or
// below it.
func isPart(at, whole []int) bool {
	return len(at) >= len(whole) && slices.Equal(at[:len(whole)], whole)
}

// bindersAround returns the binders around the node at a path of a function
// with these nodes, as the chapter defines them: the innermost one first.
func bindersAround(nodes []item, at []int) []item {
	var lets, parameters []item
	for _, n := range nodes {
		switch n.node.Kind {
		case api.Let:
			if isPart(at, longer(n.path, 1)) {
				lets = append(lets, n)
			}
		case api.Param:
			if isPart(at, path(len(nodes[0].node.Kids)-1)) {
				parameters = append(parameters, n)
			}
		}
	}
	slices.SortFunc(lets, func(a, b item) int { return len(b.path) - len(a.path) })
	slices.SortFunc(parameters, func(a, b item) int { return a.path[0] - b.path[0] })
	return append(lets, parameters...)
}

// longer returns a new path, with more indices behind those of at.
func longer(at []int, more ...int) []int {
	return append(slices.Clone(at), more...)
}

// named returns the path of the first one of these binders with a name, or nil.
func named(l []item, name string) []int {
	for _, b := range l {
		if b.node.Text == name {
			return b.path
		}
	}
	return nil
}

// names returns all texts of a tree, and some that do not occur in it.
func names(nodes []item) []string {
	l := []string{"", "unknown", "X", "M.x"}
	for _, n := range nodes {
		l = append(l, n.node.Text)
	}
	slices.Sort(l)
	return slices.Compact(l)
}

func sameVariable(a, b api.Variable) bool {
	return slices.Equal(a.Path, b.Path) && slices.Equal(a.Binder, b.Binder) && a.Free == b.Free
}

// checkFunction compares what is told of a function, and of each node of it,
// with the definitions.
func checkFunction(t *testing.T, f api.Tree) {
	t.Helper()
	if f.Kind != api.Func || !syntax.Shaped(f) {
		t.Fatalf("%v is not a function of the right shape", f)
	}
	before := whole(f)
	nodes := items(f)
	all := names(nodes)
	var variables []api.Variable
	for _, n := range nodes {
		l := bindersAround(nodes, n.path)
		checkNode(t, f, n, l, all)
		if n.node.Kind == api.Var {
			b := named(l, n.node.Text)
			variables = append(variables, api.Variable{Path: n.path, Binder: b, Free: b == nil})
		}
	}
	if got := scope.Variables(f); !slices.EqualFunc(got, variables, sameVariable) {
		t.Fatalf("P5.2: Variables(%v) is\n%v, not\n%v", f, got, variables)
	}
	checkConsequences(t, f)
	if !tree.Same(whole(f), before) {
		t.Fatalf("R2: %v is %v now", before, f)
	}
}

// checkNode checks what is told of a node of f with these binders around it.
func checkNode(t *testing.T, f api.Tree, n item, around []item, all []string) {
	t.Helper()
	at := append(longer(n.path), 7, -7)[:len(n.path)]
	before := slices.Clone(at[:cap(at)])
	for _, name := range all {
		want := named(around, name)
		got, ok := scope.Binder(f, at, name)
		if ok != (want != nil) || !slices.Equal(got, want) || !ok && got != nil {
			t.Fatalf("P5.1: Binder(%v, %v, %q) is %v, %t, not %v", f, at, name, got, ok, want)
		}
	}
	var visible []string
	for _, b := range around {
		visible = append(visible, b.node.Text)
	}
	slices.Sort(visible)
	if got := scope.Visible(f, at); !slices.Equal(got, slices.Compact(visible)) {
		t.Fatalf("P5.3: Visible(%v, %v) is %q, not %q", f, at, got, slices.Compact(visible))
	}
	if !slices.Equal(at[:cap(at)], before) {
		t.Fatalf("R2: the path %v is %v now", before, at[:cap(at)])
	}
	kids := len(n.node.Kids)
	for _, i := range []int{-1, kids, math.MaxInt} {
		checkNone(t, f, longer(n.path, i))
		checkNone(t, f, longer(n.path, i, 1))
	}
}

// checkConsequences checks what follows from the promises for the variables of f.
func checkConsequences(t *testing.T, f api.Tree) {
	t.Helper()
	for _, v := range scope.Variables(f) {
		n, ok := tree.At(f, v.Path)
		if !ok || n.Kind != api.Var {
			t.Fatalf("P5.2: %v has no variable at %v", f, v.Path)
		}
		b, found := scope.Binder(f, v.Path, n.Text)
		if v.Free == found || !slices.Equal(b, v.Binder) || v.Free && len(v.Binder) > 0 {
			t.Fatalf("P5.2: %v has the variable %v, but Binder gives %v, %t", f, v, b, found)
		}
		if v.Free == slices.Contains(scope.Visible(f, v.Path), n.Text) {
			t.Fatalf("Consequences: %v has the variable %v, which may see %q", f, v, scope.Visible(f, v.Path))
		}
		if b, _ := tree.At(f, v.Binder); !v.Free && (b.Text != n.Text || b.Kind != api.Let && b.Kind != api.Param) {
			t.Fatalf("P5.1: %v has the variable %v", f, v)
		}
	}
}

// checkNone checks what is told of a path that denotes no node of f, or of any
// path of a tree that is no function.
func checkNone(t *testing.T, f api.Tree, at []int) {
	t.Helper()
	for _, name := range []string{"x", "y", ""} {
		if got, ok := scope.Binder(f, at, name); ok || got != nil {
			t.Fatalf("P5.1: Binder(%v, %v, %q) is %v, %t", f, at, name, got, ok)
		}
	}
	if got := scope.Visible(f, at); len(got) != 0 {
		t.Fatalf("P5.3: Visible(%v, %v) is %q", f, at, got)
	}
}

// checkNothing checks what is told of a tree that is no function of the right
// shape.
func checkNothing(t *testing.T, x api.Tree) {
	t.Helper()
	if x.Kind == api.Func && syntax.Shaped(x) {
		t.Fatalf("%v is a function", x)
	}
	if got := scope.Variables(x); len(got) != 0 {
		t.Fatalf("P5.2: Variables(%v) is %v", x, got)
	}
	for _, at := range tree.Paths(x) {
		checkNone(t, x, at)
		checkNone(t, x, longer(at, 0))
		checkNone(t, x, longer(at, -1))
	}
}

// whole returns a copy of a tree with what lies in spare capacity.
func whole(x api.Tree) api.Tree {
	x.Leads = slices.Clone(x.Leads[:cap(x.Leads)])
	x.Kids = slices.Clone(x.Kids[:cap(x.Kids)])
	for i, k := range x.Kids {
		x.Kids[i] = whole(k)
	}
	return x
}

// roomy returns a tree equal to x, all of whose slices have spare capacity that
// is not zero.
func roomy(x api.Tree) api.Tree {
	leads := append([]string{}, x.Leads...)
	x.Leads = append(leads, "spare", "spare")[:len(leads)]
	kids := []api.Tree{}
	for _, k := range x.Kids {
		kids = append(kids, roomy(k))
	}
	x.Kids = append(kids, node(api.Let, "x", node(api.Hole, "spare")), node(api.Var, "x"))[:len(kids)]
	return x
}
