package tree_test

import (
	"math/rand"
	"slices"
	"strconv"
	"testing"

	"semvcs/api"
	"semvcs/tree"
)

// forests returns all lists of trees with so many nodes in all; a node's text
// is its number of kids.
func forests(nodes int) [][]api.Tree {
	if nodes == 0 {
		return [][]api.Tree{nil}
	}
	var l [][]api.Tree
	for below := range nodes {
		for _, kids := range forests(below) {
			for _, rest := range forests(nodes - 1 - below) {
				first := led(api.Call, strconv.Itoa(len(kids)), leads("#"), kids...)
				l = append(l, slices.Concat([]api.Tree{first}, rest))
			}
		}
	}
	return l
}

func TestAllSmallTrees(t *testing.T) {
	var l []api.Tree
	for nodes := range 6 {
		for _, kids := range forests(nodes) {
			l = append(l, node(api.List, "root", kids...))
		}
	}
	if len(l) != 1+1+2+5+14+42 {
		t.Fatalf("there are %d trees", len(l))
	}
	for _, x := range l {
		check(t, x, node(api.Paren, "", node(api.Num, "1")))
		for _, y := range l {
			checkSame(t, x, y)
		}
	}
}

// random is a random tree of random nodes, whatever their kinds.
func random(r *rand.Rand, levels int) api.Tree {
	t := api.Tree{Kind: r.Intn(4) - 1, Text: []string{"", "", "x", "y"}[r.Intn(4)]}
	for range r.Intn(3) {
		t.Leads = append(t.Leads, []string{"", " ", "#\n"}[r.Intn(3)])
	}
	if levels > 1 {
		for range r.Intn(4) {
			t.Kids = append(t.Kids, random(r, levels-1))
		}
	}
	return t
}

func TestRandomTrees(t *testing.T) {
	r := rand.New(rand.NewSource(1))
	for range 1000 {
		x, u := random(r, 1+r.Intn(4)), random(r, 1+r.Intn(3))
		check(t, roomy(x), roomy(u))
	}
	equal := 0
	for range 20000 {
		x := random(r, 3)
		nodes := preorder(x)
		path := nodes[r.Intn(len(nodes))].path
		y := changed(roomy(x), path, func(n *api.Tree) { *n = random(r, 1) })
		checkSame(t, x, y)
		if text(x) == text(y) {
			equal++
		}
	}
	if equal < 100 || equal > 10000 {
		t.Errorf("%d of the pairs are the same", equal)
	}
}

// TestSharedArguments has one slice at several places of the arguments.
func TestSharedArguments(t *testing.T) {
	l := leads(" ", "#\n")
	kids := []api.Tree{led(api.Num, "1", l), led(api.Var, "x", l)}
	x := led(api.List, "", l, led(api.Bin, "+", l, kids...), led(api.Bin, "-", l, kids...))
	check(t, x, x)
	check(t, x, x.Kids[0])
	check(t, x.Kids[1], x)

	paths := []int{1, 0, 0, -1}
	tree.At(x, paths[:2])
	tree.Replace(x, paths[:2], x)
	tree.Number(x, paths[:2])
	if !slices.Equal(paths, []int{1, 0, 0, -1}) {
		t.Errorf("R2: the path is %v", paths)
	}
}

// TestResultsAreTheCallers changes results; later results must not change.
func TestResultsAreTheCallers(t *testing.T) {
	x := call()
	want := text(x)
	bare := text(tree.Bare(x))
	for range 2 {
		got, _ := tree.At(x, nil)
		spoil(got)
		got, _ = tree.Replace(x, []int{0}, x)
		spoil(got)
		got = tree.Bare(x)
		if text(got) != bare {
			t.Errorf("R3: Bare is %v", got)
		}
		spoil(got)
		for _, p := range tree.Paths(x) {
			clear(p)
		}
	}
	if text(x) != want {
		t.Errorf("R2: the argument is %v", x)
	}
}

func spoil(t api.Tree) {
	for _, k := range t.Kids {
		spoil(k)
	}
	clear(t.Leads)
	clear(t.Kids)
}

// chain is a tree whose nodes, but for the last one, have one kid.
func chain(levels int, last api.Tree) api.Tree {
	t := last
	for range levels - 1 {
		t = led(api.Paren, "", leads("(", ")"), t)
	}
	return t
}

// TestDeepTrees has as many levels as rule R10 allows.
func TestDeepTrees(t *testing.T) {
	const levels = 1 << 16
	last := led(api.Num, "1", leads(" "))
	x := chain(levels, last)
	path := make([]int, levels-1)
	if size, depth := tree.Size(x), tree.Depth(x); size != levels || depth != levels {
		t.Errorf("P3.1: Size and Depth are %d and %d", size, depth)
	}
	if got, ok := tree.At(x, path); !ok || text(got) != text(last) {
		t.Errorf("P3.2: At is %v, %t", got, ok)
	}
	if got, ok := tree.Replace(x, path, node(api.Num, "2")); !ok || !tree.Same(got, chain(levels, node(api.Num, "2"))) || tree.Same(got, x) {
		t.Errorf("P3.2: Replace is wrong: %t", ok)
	}
	if bare := tree.Bare(x); tree.Size(bare) != levels || tree.Same(x, bare) || !tree.Same(bare, tree.Bare(bare)) {
		t.Error("P3.3: Bare is wrong")
	}
	if got := tree.Number(x, path); got != levels-1 {
		t.Errorf("P3.4: Number is %d", got)
	}
	for _, path := range [][]int{longer(path, 0), longer(path[1:], 1)} {
		if _, ok := tree.At(x, path); ok || tree.Number(x, path) != -1 {
			t.Errorf("P3.2: there is a node behind the last one")
		}
	}
	for n, path := range tree.Paths(chain(1<<11, last)) {
		if len(path) != n || slices.ContainsFunc(path, func(i int) bool { return i != 0 }) {
			t.Fatalf("P3.4: path %d is %v", n, path)
		}
	}
}

func TestWideTrees(t *testing.T) {
	const kids = 1 << 16
	x := node(api.List, "", slices.Repeat([]api.Tree{node(api.Paren, "", node(api.Num, "1"))}, kids)...)
	if size, depth := tree.Size(x), tree.Depth(x); size != 1+2*kids || depth != 3 {
		t.Errorf("P3.1: Size and Depth are %d and %d", size, depth)
	}
	if got := tree.Number(x, []int{kids - 1, 0}); got != 2*kids {
		t.Errorf("P3.4: Number is %d", got)
	}
	for n, path := range tree.Paths(x)[1:] {
		if want := []int{n / 2, 0}[:1+n%2]; !slices.Equal(path, want) {
			t.Fatalf("P3.4: path %d is %v, not %v", n+1, path, want)
		}
	}
	got, ok := tree.Replace(x, []int{kids / 2}, node(api.Hole, ""))
	if !ok || tree.Size(got) != 2*kids || got.Kids[kids/2].Kind != api.Hole || got.Kids[kids/2+1].Kind != api.Paren {
		t.Error("P3.2: Replace is wrong")
	}
}
