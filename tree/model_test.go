package tree_test

import (
	"math"
	"slices"
	"strconv"
	"strings"
	"testing"
	"unsafe"

	"semvcs/api"
	"semvcs/tree"
)

// item is a node with its path.
type item struct {
	path []int
	node api.Tree
}

// preorder returns all nodes of a tree in preorder, found with a stack.
func preorder(t api.Tree) []item {
	var l []item
	stack := []item{{nil, t}}
	for len(stack) > 0 {
		x := stack[len(stack)-1]
		stack = stack[:len(stack)-1]
		l = append(l, x)
		for i := len(x.node.Kids) - 1; i >= 0; i-- {
			stack = append(stack, item{longer(x.path, i), x.node.Kids[i]})
		}
	}
	return l
}

// longer returns a new path, with more indices behind those of path.
func longer(path []int, more ...int) []int {
	return append(slices.Clone(path), more...)
}

// text returns a text that two trees share only if they are equal.
func text(t api.Tree) string {
	return textWith(t, []int{-1}, api.Tree{})
}

// textWith returns the text of t with u at a path.
func textWith(t api.Tree, path []int, u api.Tree) string {
	var b strings.Builder
	writeWith(&b, t, path, u)
	return b.String()
}

func writeWith(b *strings.Builder, t api.Tree, path []int, u api.Tree) {
	if len(path) == 0 {
		t, path = u, []int{-1}
	}
	b.WriteString("{" + strconv.Itoa(t.Kind) + strconv.Quote(t.Text))
	for _, lead := range t.Leads {
		b.WriteString(" " + strconv.Quote(lead))
	}
	for i, k := range t.Kids {
		if i == path[0] {
			writeWith(b, k, path[1:], u)
		} else {
			writeWith(b, k, []int{-1}, u)
		}
	}
	b.WriteString("}")
}

// textOfMemory returns the text of t with what lies in spare capacity.
func textOfMemory(t api.Tree) string {
	t.Leads = t.Leads[:cap(t.Leads)]
	kids := t.Kids[:cap(t.Kids)]
	t.Kids = nil
	l := []string{text(t)}
	for _, k := range kids {
		l = append(l, textOfMemory(k))
	}
	return "[" + strings.Join(l, " ") + "]"
}

// roomy returns a tree equal to t, all of whose slices have spare capacity
// that is not zero.
func roomy(t api.Tree) api.Tree {
	leads := []string{}
	leads = append(leads, t.Leads...)
	t.Leads = append(leads, "spare", "spare")[:len(leads)]
	kids := []api.Tree{}
	for _, k := range t.Kids {
		kids = append(kids, roomy(k))
	}
	spare := api.Tree{Kind: api.Hole, Text: "spare", Leads: []string{"spare"}}
	t.Kids = append(kids, spare, spare)[:len(kids)]
	return t
}

// span is the memory of a slice, with its spare capacity.
type span struct {
	from, to uintptr
}

func spanOf[E any](l []E) []span {
	if cap(l) == 0 {
		return nil
	}
	var e E
	from := uintptr(unsafe.Pointer(unsafe.SliceData(l)))
	return []span{{from, from + uintptr(cap(l))*unsafe.Sizeof(e)}}
}

// spans returns the memory of all slices of a tree.
func spans(t api.Tree) []span {
	l := append(spanOf(t.Leads), spanOf(t.Kids)...)
	for _, k := range t.Kids {
		l = append(l, spans(k)...)
	}
	return l
}

func spansOfPaths(paths [][]int) []span {
	l := spanOf(paths)
	for _, p := range paths {
		l = append(l, spanOf(p)...)
	}
	return l
}

// checkNew checks that the slices of a result share memory neither with each
// other nor with the arguments.
func checkNew(t *testing.T, call string, result []span, arguments ...api.Tree) {
	t.Helper()
	given := []span{}
	for _, a := range arguments {
		given = append(given, spans(a)...)
	}
	for i, x := range result {
		for _, y := range slices.Concat(result[:i], given) {
			if x.from < y.to && y.from < x.to {
				t.Fatalf("R2: %s shares memory", call)
			}
		}
	}
}

// checkNone checks what is told of a path that denotes no node.
func checkNone(t *testing.T, x api.Tree, path []int, u api.Tree) {
	t.Helper()
	zero := text(api.Tree{})
	if got, ok := tree.At(x, path); ok || text(got) != zero {
		t.Fatalf("P3.2: At(%v, %v) is %v, %t", x, path, got, ok)
	}
	if got, ok := tree.Replace(x, path, u); ok || text(got) != zero {
		t.Fatalf("P3.2: Replace(%v, %v) is %v, %t", x, path, got, ok)
	}
	if got := tree.Number(x, path); got != -1 {
		t.Fatalf("P3.4: Number(%v, %v) is %d", x, path, got)
	}
}

// checkNode checks what is told of the n-th node of x.
func checkNode(t *testing.T, x api.Tree, n int, want item, u api.Tree) {
	t.Helper()
	got, ok := tree.At(x, want.path)
	if !ok || text(got) != text(want.node) {
		t.Fatalf("P3.2: At(%v, %v) is %v, %t", x, want.path, got, ok)
	}
	checkNew(t, "At", spans(got), x)

	got, ok = tree.Replace(x, want.path, u)
	if !ok || text(got) != textWith(x, want.path, u) {
		t.Fatalf("P3.2: Replace(%v, %v, %v) is %v, %t", x, want.path, u, got, ok)
	}
	checkNew(t, "Replace", spans(got), x, u)
	if back, ok := tree.At(got, want.path); !ok || text(back) != text(u) {
		t.Fatalf("Consequences: at %v of %v is %v, not %v", want.path, got, back, u)
	}

	if got := tree.Number(x, want.path); got != n {
		t.Fatalf("P3.4: Number(%v, %v) is %d, not %d", x, want.path, got, n)
	}
	kids := len(want.node.Kids)
	for _, i := range []int{-1, kids, kids + 1, -kids - 1, math.MinInt, math.MaxInt} {
		checkNone(t, x, longer(want.path, i), u)
		checkNone(t, x, longer(want.path, i, 0), u)
	}
}

// check compares all functions on x, with u put in place of each node, with
// what the list of the nodes of x says.
func check(t *testing.T, x, u api.Tree) {
	t.Helper()
	before := textOfMemory(x) + textOfMemory(u)
	nodes := preorder(x)
	levels := 0
	for _, n := range nodes {
		levels = max(levels, len(n.path)+1)
	}
	if got := tree.Size(x); got != len(nodes) {
		t.Fatalf("P3.1: Size(%v) is %d, not %d", x, got, len(nodes))
	}
	if got := tree.Depth(x); got != levels {
		t.Fatalf("P3.1: Depth(%v) is %d, not %d", x, got, levels)
	}
	for n, want := range nodes {
		checkNode(t, x, n, want, u)
	}
	paths := tree.Paths(x)
	if !slices.EqualFunc(paths, nodes, func(p []int, n item) bool { return slices.Equal(p, n.path) }) {
		t.Fatalf("P3.4: Paths(%v) is %v", x, paths)
	}
	checkNew(t, "Paths", spansOfPaths(paths), x)
	checkBare(t, x, nodes)
	checkSame(t, x, u)
	if textOfMemory(x)+textOfMemory(u) != before {
		t.Fatalf("R2: %v and %v were %s", x, u, before)
	}
}

// checkBare checks Bare of a tree with these nodes.
func checkBare(t *testing.T, x api.Tree, nodes []item) {
	t.Helper()
	bare := tree.Bare(x)
	checkNew(t, "Bare", spans(bare), x)
	same := func(a, b item) bool {
		return slices.Equal(a.path, b.path) && a.node.Kind == b.node.Kind && a.node.Text == b.node.Text && len(a.node.Leads) == 0
	}
	if !slices.EqualFunc(preorder(bare), nodes, same) {
		t.Fatalf("P3.3: Bare(%v) is %v", x, bare)
	}
}

// checkSame compares two trees, and each one with an equal one.
func checkSame(t *testing.T, a, b api.Tree) {
	t.Helper()
	want := text(a) == text(b)
	if tree.Same(a, b) != want || tree.Same(b, a) != want {
		t.Fatalf("P3.3: Same(%v, %v) is not %t", a, b, want)
	}
	if !tree.Same(a, roomy(a)) || !tree.Same(roomy(b), b) {
		t.Fatalf("P3.3: %v or %v is not the same as a copy of it", a, b)
	}
}
