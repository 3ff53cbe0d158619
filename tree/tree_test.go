package tree_test

import (
	"slices"
	"testing"

	"semvcs/api"
	"semvcs/syntax"
	"semvcs/tree"
)

func node(kind int, text string, kids ...api.Tree) api.Tree {
	return api.Tree{Kind: kind, Text: text, Kids: kids}
}

// led is a node with leads.
func led(kind int, text string, leads []string, kids ...api.Tree) api.Tree {
	return api.Tree{Kind: kind, Text: text, Leads: leads, Kids: kids}
}

func leads(l ...string) []string { return l }

// body returns the tree of an expression.
func body(t *testing.T, src string) api.Tree {
	t.Helper()
	m, _, e := syntax.Parse("module M def f(): Int = " + src)
	if e != api.OK {
		t.Fatalf("%q has no tree: error %d", src, e)
	}
	return m.Kids[0].Kids[1]
}

// call is f(1 + 2, [x], g()), whose nodes have the numbers in the comments.
func call() api.Tree {
	return led(api.Call, "f", leads("a", "b", "c", "d", "e"), // 0
		led(api.Arg, "", nil, // 1
			led(api.Bin, "+", leads("f"), // 2
				led(api.Num, "1", leads("g")),   // 3
				led(api.Num, "2", leads("h")))), // 4
		led(api.Arg, "", nil, // 5
			led(api.List, "", leads("i", "j"), // 6
				led(api.Var, "x", leads("k")))), // 7
		led(api.Arg, "", nil, // 8
			led(api.Call, "g", leads("l", "m", "n")))) // 9
}

func TestExamples(t *testing.T) {
	sum := body(t, "1 + 2")
	if n, levels := tree.Size(sum), tree.Depth(sum); n != 3 || levels != 2 {
		t.Errorf("P3.1: Size and Depth of 1 + 2 are %d and %d", n, levels)
	}
	if got := tree.Paths(sum); !slices.EqualFunc(got, [][]int{{}, {0}, {1}}, slices.Equal) {
		t.Errorf("P3.4: Paths of 1 + 2 is %v", got)
	}
	if got := tree.Number(body(t, "(1) + 2"), []int{1}); got != 3 {
		t.Errorf("P3.4: Number of (1) + 2 at [1] is %d", got)
	}
}

func TestSizeAndDepth(t *testing.T) {
	leaf := node(api.Num, "1")
	pair := node(api.Bin, "+", leaf, leaf)
	for _, x := range []struct {
		t            api.Tree
		size, levels int
	}{
		{api.Tree{}, 1, 1},
		{leaf, 1, 1},
		{led(api.Num, "1", leads(" ", " ")), 1, 1},
		{api.Tree{Kids: []api.Tree{}}, 1, 1},
		{node(-7, "no kind", api.Tree{}), 2, 2},
		{pair, 3, 2},
		{node(api.Bin, "-", pair, leaf), 5, 3},
		{node(api.Bin, "-", leaf, pair), 5, 3},
		{node(api.List, "", leaf, node(api.Paren, "", pair), pair, leaf), 10, 4},
		{call(), 10, 4},
	} {
		if size, levels := tree.Size(x.t), tree.Depth(x.t); size != x.size || levels != x.levels {
			t.Errorf("P3.1: Size and Depth of %v are %d and %d", x.t, size, levels)
		}
	}
}

func TestAt(t *testing.T) {
	for _, x := range []struct {
		path []int
		want api.Tree
	}{
		{nil, call()},
		{[]int{}, call()},
		{[]int{0, 0}, led(api.Bin, "+", leads("f"), led(api.Num, "1", leads("g")), led(api.Num, "2", leads("h")))},
		{[]int{0, 0, 0}, led(api.Num, "1", leads("g"))},
		{[]int{0, 0, 1}, led(api.Num, "2", leads("h"))},
		{[]int{1}, led(api.Arg, "", nil, led(api.List, "", leads("i", "j"), led(api.Var, "x", leads("k"))))},
		{[]int{1, 0, 0}, led(api.Var, "x", leads("k"))},
		{[]int{2, 0}, led(api.Call, "g", leads("l", "m", "n"))},
	} {
		if got, ok := tree.At(call(), x.path); !ok || text(got) != text(x.want) {
			t.Errorf("P3.2: At %v is %v, %t", x.path, got, ok)
		}
	}
}

func TestReplace(t *testing.T) {
	old := node(api.List, "", led(api.Num, "1", leads("a")), node(api.Paren, "", node(api.Var, "x")), node(api.Var, "y"))
	u := led(api.Bin, "+", leads("b"), node(api.Num, "2"), node(api.Num, "3"))
	for _, x := range []struct {
		path []int
		u    api.Tree
		want api.Tree
	}{
		{nil, u, u},
		{[]int{}, api.Tree{}, api.Tree{}},
		{[]int{0}, u, node(api.List, "", u, old.Kids[1], old.Kids[2])},
		{[]int{1}, u, node(api.List, "", old.Kids[0], u, old.Kids[2])},
		{[]int{1, 0}, u, node(api.List, "", old.Kids[0], node(api.Paren, "", u), old.Kids[2])},
		{[]int{2}, api.Tree{}, node(api.List, "", old.Kids[0], old.Kids[1], api.Tree{})},
		{[]int{1, 0}, old, node(api.List, "", old.Kids[0], node(api.Paren, "", old), old.Kids[2])},
	} {
		if got, ok := tree.Replace(old, x.path, x.u); !ok || text(got) != text(x.want) {
			t.Errorf("P3.2: Replace at %v is %v, %t", x.path, got, ok)
		}
	}
}

func TestPathsOfNoNode(t *testing.T) {
	for _, path := range [][]int{{-1}, {3}, {0, 1}, {0, -1}, {0, 0, 2}, {0, 0, 0, 0}, {3, 0}, {-1, 0}, {2, 0, 0}, {1, 0, 0, 1, 0}} {
		checkNone(t, call(), path, node(api.Num, "2"))
	}
	checkNone(t, api.Tree{}, []int{0}, api.Tree{})
}

func TestSameOfTreesThatDiffer(t *testing.T) {
	always := []func(*api.Tree){
		func(n *api.Tree) { n.Kind++ },
		func(n *api.Tree) { n.Text += " " },
		func(n *api.Tree) { n.Leads = append(n.Leads, "") },
		func(n *api.Tree) { n.Kids = append(n.Kids, api.Tree{}) },
	}
	withLeads := []func(*api.Tree){
		func(n *api.Tree) { n.Leads = n.Leads[:len(n.Leads)-1] },
		func(n *api.Tree) { n.Leads = nil },
		func(n *api.Tree) { n.Leads[len(n.Leads)-1] += "\n" },
	}
	withKids := []func(*api.Tree){
		func(n *api.Tree) { n.Kids = n.Kids[:len(n.Kids)-1] },
		func(n *api.Tree) { n.Kids = nil },
	}
	for _, n := range preorder(call()) {
		changes := slices.Clone(always)
		if len(n.node.Leads) > 0 {
			changes = append(changes, withLeads...)
		}
		if len(n.node.Kids) > 0 {
			changes = append(changes, withKids...)
		}
		if len(n.node.Leads) > 1 {
			changes = append(changes, func(n *api.Tree) { slices.Reverse(n.Leads) })
		}
		if len(n.node.Kids) > 1 {
			changes = append(changes, func(n *api.Tree) { slices.Reverse(n.Kids) })
		}
		for _, change := range changes {
			checkDiffer(t, call(), changed(call(), n.path, change))
		}
	}
}

// changed changes the node of x at a path.
func changed(x api.Tree, path []int, change func(*api.Tree)) api.Tree {
	n := &x
	for _, i := range path {
		n = &n.Kids[i]
	}
	change(n)
	return x
}

func checkDiffer(t *testing.T, a, b api.Tree) {
	t.Helper()
	if tree.Same(a, b) || tree.Same(b, a) {
		t.Errorf("P3.3: %v and %v are the same", a, b)
	}
}

func TestSameOfNilAndEmpty(t *testing.T) {
	a := api.Tree{Kids: []api.Tree{{}}}
	b := api.Tree{Leads: []string{}, Kids: []api.Tree{{Leads: []string{}, Kids: []api.Tree{}}}}
	for _, x := range [][2]api.Tree{{a, a}, {a, b}, {b, a}, {b, b}, {api.Tree{}, b.Kids[0]}} {
		if !tree.Same(x[0], x[1]) {
			t.Errorf("P3.3: %v and %v are not the same", x[0], x[1])
		}
	}
	checkDiffer(t, api.Tree{}, api.Tree{Leads: []string{""}})
	checkDiffer(t, api.Tree{}, a)
}

func TestBare(t *testing.T) {
	want := node(api.Call, "f",
		node(api.Arg, "", node(api.Bin, "+", node(api.Num, "1"), node(api.Num, "2"))),
		node(api.Arg, "", node(api.List, "", node(api.Var, "x"))),
		node(api.Arg, "", node(api.Call, "g")))
	for _, x := range []api.Tree{call(), want} {
		if got := tree.Bare(x); text(got) != text(want) {
			t.Errorf("P3.3: Bare is %v", got)
		}
	}
	if got := tree.Bare(api.Tree{}); text(got) != text(api.Tree{}) {
		t.Errorf("P3.3: Bare of the zero tree is %v", got)
	}
	if got := tree.Bare(led(-1, "x", leads(""))); text(got) != text(node(-1, "x")) {
		t.Errorf("P3.3: Bare of a node with one empty lead is %v", got)
	}
}

func TestPathsAndNumbers(t *testing.T) {
	want := [][]int{{}, {0}, {0, 0}, {0, 0, 0}, {0, 0, 1}, {1}, {1, 0}, {1, 0, 0}, {2}, {2, 0}}
	if got := tree.Paths(call()); !slices.EqualFunc(got, want, slices.Equal) {
		t.Errorf("P3.4: Paths is %v", got)
	}
	for n, path := range want {
		if got := tree.Number(call(), path); got != n {
			t.Errorf("P3.4: Number at %v is %d, not %d", path, got, n)
		}
	}
	if got := tree.Paths(api.Tree{}); len(got) != 1 || len(got[0]) != 0 {
		t.Errorf("P3.4: Paths of the zero tree is %v", got)
	}
}

func TestSource(t *testing.T) {
	m, _, e := syntax.Parse("module M # of\ntype A = [Int] def f(x: A, y: Text): Bool = let z = g(x, [1, 2]) in if z == (?) then true else M.h() # end")
	if e != api.OK {
		t.Fatal(e)
	}
	check(t, m, body(t, "1 + 2"))
	check(t, roomy(m), roomy(m))
}
