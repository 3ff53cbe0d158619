package types_test

import (
	"math"
	"slices"
	"strings"
	"testing"

	"semvcs/api"
	"semvcs/syntax"
	"semvcs/tree"
	"semvcs/types"
)

// isProgram reports whether a list is a program, as chapter 6 defines it.
func isProgram(p []api.Tree) bool {
	return !slices.ContainsFunc(p, func(m api.Tree) bool { return m.Kind != api.Module || !syntax.Shaped(m) })
}

// definition is a definition with its indices.
type definition struct {
	module, def int
	node        api.Tree
}

// definitions returns the definitions of a program, by modules.
func definitions(p []api.Tree) []definition {
	var l []definition
	for m, t := range p {
		for d, k := range t.Kids {
			l = append(l, definition{m, d, k})
		}
	}
	return l
}

// meaning returns the index among the definitions of the first one that a word
// can mean in a module, or -1.
func meaning(p []api.Tree, module int, word string) int {
	return slices.IndexFunc(definitions(p), func(d definition) bool {
		name := p[d.module].Text
		first := slices.IndexFunc(p, func(m api.Tree) bool { return m.Text == name }) == d.module
		return word == d.node.Text && d.module == module || word == name+"."+d.node.Text && first
	})
}

// text is a type as a text without leads.
func text(t api.Tree) string {
	switch t.Kind {
	case api.TInt:
		return "Int"
	case api.TText:
		return "Text"
	case api.TBool:
		return "Bool"
	case api.TList:
		return "[" + text(t.Kids[0]) + "]"
	}
	return t.Text
}

// basic is the tree of a text, without leads, of a type without names.
func basic(s string) api.Tree {
	inner, list := strings.CutPrefix(s, "[")
	if list {
		return node(api.TList, "", basic(strings.TrimSuffix(inner, "]")))
	}
	return node(map[string]int{"Int": api.TInt, "Text": api.TText, "Bool": api.TBool}[s], "")
}

// expansion returns a type without aliases as a text. It puts types in place of
// names, again and again: what takes more steps than there are definitions comes
// to one of them twice.
func expansion(p []api.Tree, module int, t api.Tree) (string, api.Errno) {
	s, l := text(t), definitions(p)
	for range len(l) + 1 {
		word := strings.Trim(s, "[]")
		if word == "Int" || word == "Text" || word == "Bool" {
			return s, api.OK
		}
		d := meaning(p, module, word)
		if d < 0 {
			return "", api.ErrNone
		}
		module, s = l[d].module, strings.Replace(s, word, text(l[d].node.Kids[0]), 1)
	}
	return "", api.ErrCycle
}

// leading returns for each two definitions whether the first one is an alias
// that leads to the second one, directly or through others (Warshall's way).
func leading(p []api.Tree) [][]bool {
	l := definitions(p)
	leads := make([][]bool, len(l))
	for i, d := range l {
		leads[i] = make([]bool, len(l))
		if d.node.Kind != api.Alias {
			continue
		}
		if j := meaning(p, d.module, strings.Trim(text(d.node.Kids[0]), "[]")); j >= 0 {
			leads[i][j] = true
		}
	}
	for via := range l {
		for i := range l {
			for j := range l {
				leads[i][j] = leads[i][j] || leads[i][via] && leads[via][j]
			}
		}
	}
	return leads
}

// someTypes returns the types of a program and their parts, and types of all
// names of modules and definitions, also of some that there are not.
func someTypes(p []api.Tree) []api.Tree {
	l := []api.Tree{node(api.TInt, ""), basic("[Text]"), node(api.TName, "Unknown"), node(api.TName, "Unknown.T"), node(api.TList, "", node(api.TName, "A"))}
	for _, t := range p {
		for _, at := range tree.Paths(t) {
			if x, _ := tree.At(t, at); api.TInt <= x.Kind && x.Kind <= api.TName {
				l = append(l, x)
			}
		}
		l = append(l, node(api.TName, t.Text), node(api.TName, t.Text+".Unknown"))
		for _, d := range definitions(p) {
			if d.node.Kind == api.Alias {
				l = append(l, node(api.TName, d.node.Text), node(api.TName, t.Text+"."+d.node.Text), node(api.TList, "", node(api.TName, d.node.Text)))
			}
		}
	}
	slices.SortStableFunc(l, func(a, b api.Tree) int { return strings.Compare(text(a), text(b)) })
	return slices.CompactFunc(l, tree.Same)
}

// checkProgram compares what is told of a program with the definitions.
func checkProgram(t *testing.T, p []api.Tree) {
	t.Helper()
	if !isProgram(p) {
		t.Fatalf("%v is not a program", p)
	}
	before := wholes(p)
	l := someTypes(p)
	typesBefore := wholes(l)
	for _, x := range l {
		for m := range p {
			checkExpansion(t, p, m, x)
		}
		for _, m := range []int{-1, len(p), math.MaxInt, math.MinInt} {
			if u, e := types.Expand(p, m, x); e != api.ErrArg || !tree.Same(u, api.Tree{}) {
				t.Fatalf("P7.1: Expand(%v, %d, %v) is %v, %d", p, m, x, u, e)
			}
			if types.Equal(p, m, x, m, x) {
				t.Fatalf("P7.3: Equal(%v, %d, %v, ..)", p, m, x)
			}
		}
	}
	checkCircles(t, p)
	if !slices.EqualFunc(wholes(p), before, tree.Same) || !slices.EqualFunc(wholes(l), typesBefore, tree.Same) {
		t.Fatalf("R2: %v and %v are %v and %v now", before, typesBefore, p, l)
	}
}

// checkExpansion checks Expand of a type, and of what it returns.
func checkExpansion(t *testing.T, p []api.Tree, module int, x api.Tree) {
	t.Helper()
	want, e := expansion(p, module, x)
	u, err := types.Expand(p, module, x)
	if err != e || e != api.OK && !tree.Same(u, api.Tree{}) || e == api.OK && !tree.Same(u, basic(want)) {
		t.Fatalf("P7.1: Expand(%v, %d, %v) is %v, %d, not %s, %d", p, module, x, u, err, want, e)
	}
	if types.Equal(p, module, x, module, x) != (e == api.OK) {
		t.Fatalf("P7.3: Equal(%v, %d, %v) to itself is not %t", p, module, x, e == api.OK)
	}
	if e != api.OK {
		return
	}
	for m := range p {
		if again, err := types.Expand(p, m, u); err != api.OK || !tree.Same(again, u) {
			t.Fatalf("Consequences: Expand(%v, %d, %v) is %v, %d", p, m, u, again, err)
		}
		if !types.Equal(p, module, x, m, u) || !types.Equal(p, m, u, module, x) {
			t.Fatalf("P7.3: in %v %v in %d and %v are not equal", p, x, module, u)
		}
	}
}

// checkCircles checks Circular of all definitions, and of what is none.
func checkCircles(t *testing.T, p []api.Tree) {
	t.Helper()
	l, leads := definitions(p), leading(p)
	for m := -1; m <= len(p); m++ {
		last := 1
		if m >= 0 && m < len(p) {
			last = len(p[m].Kids)
		}
		for d := -1; d <= last; d++ {
			i := slices.IndexFunc(l, func(x definition) bool { return x.module == m && x.def == d })
			want := i >= 0 && leads[i][i]
			if got := types.Circular(p, m, d); got != want {
				t.Fatalf("P7.2: Circular(%v, %d, %d) is %t, not %t", p, m, d, got, want)
			}
			if !want {
				continue
			}
			if _, e := types.Expand(p, m, l[i].node.Kids[0]); e != api.ErrCycle {
				t.Fatalf("Consequences: in %v the type of %d, %d, which is circular, has the error %d", p, m, d, e)
			}
		}
	}
}

// checkEqual compares each two types of a program, in all modules.
func checkEqual(t *testing.T, p []api.Tree) (same, other int) {
	t.Helper()
	type place struct {
		module int
		x      api.Tree
		text   string
		e      api.Errno
	}
	var l []place
	for m := range p {
		for _, x := range someTypes(p) {
			s, e := expansion(p, m, x)
			l = append(l, place{m, x, s, e})
		}
	}
	for _, a := range l {
		for _, b := range l {
			want := a.e == api.OK && b.e == api.OK && a.text == b.text
			if got := types.Equal(p, a.module, a.x, b.module, b.x); got != want {
				t.Fatalf("P7.3: Equal(%v, %d, %v, %d, %v) is %t", p, a.module, a.x, b.module, b.x, got)
			}
			if want {
				same++
			} else {
				other++
			}
		}
	}
	return same, other
}

// checkNothing checks what is told of a list that is no program.
func checkNothing(t *testing.T, p []api.Tree) {
	t.Helper()
	if isProgram(p) {
		t.Fatalf("%v is a program", p)
	}
	for m := -1; m <= len(p); m++ {
		for _, x := range []api.Tree{node(api.TInt, ""), node(api.TName, "T"), node(api.TName, "A.U"), node(api.TList, "", node(api.TName, "None")), node(api.TName, "t"), {}} {
			if u, e := types.Expand(p, m, x); e != api.ErrArg || !tree.Same(u, api.Tree{}) {
				t.Fatalf("P7.1: Expand(%v, %d, %v) is %v, %d", p, m, x, u, e)
			}
			if types.Equal(p, m, x, m, x) {
				t.Fatalf("P7.3: Equal(%v, %d, %v, ..)", p, m, x)
			}
		}
		for d := -1; d <= 2; d++ {
			if types.Circular(p, m, d) {
				t.Fatalf("P7.2: Circular(%v, %d, %d)", p, m, d)
			}
		}
	}
}

// whole returns a copy of a tree with what lies in spare capacity, and wholes
// one of a list of trees.
func whole(x api.Tree) api.Tree {
	x.Leads = slices.Clone(x.Leads[:cap(x.Leads)])
	x.Kids = wholes(x.Kids)
	return x
}

func wholes(p []api.Tree) []api.Tree {
	l := slices.Clone(p[:cap(p)])
	for i, t := range l {
		l[i] = whole(t)
	}
	return l
}

// roomy returns trees equal to these, with spare capacity that is not zero in
// all slices.
func roomy(p []api.Tree) []api.Tree {
	l := []api.Tree{}
	for _, x := range p {
		leads := append([]string{}, x.Leads...)
		x.Leads = append(leads, "spare", "spare")[:len(leads)]
		x.Kids = roomy(x.Kids)
		l = append(l, x)
	}
	return append(l, node(api.Alias, "T"), node(api.TName, "T"))[:len(l)]
}
