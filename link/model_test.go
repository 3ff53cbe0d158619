package link_test

import (
	"math"
	"slices"
	"strings"
	"testing"

	"semvcs/api"
	"semvcs/link"
	"semvcs/syntax"
	"semvcs/tree"
)

// isProgram reports whether a list is a program, as the chapter defines it.
func isProgram(p []api.Tree) bool {
	return !slices.ContainsFunc(p, func(m api.Tree) bool { return m.Kind != api.Module || !syntax.Shaped(m) })
}

// definition is a definition with its indices.
type definition struct {
	module, def int
	node        api.Tree
}

// definitions returns the definitions of a program, by modules.
func definitions(p []api.Tree) []definition {
	var l []definition
	for m, t := range p {
		for d, k := range t.Kids {
			l = append(l, definition{m, d, k})
		}
	}
	return l
}

// meaning returns the first definition that a word can mean in a module.
func meaning(p []api.Tree, module int, word string) (definition, bool) {
	if module < 0 || module >= len(p) {
		return definition{}, false
	}
	for _, d := range definitions(p) {
		name := p[d.module].Text
		first := slices.IndexFunc(p, func(m api.Tree) bool { return m.Text == name }) == d.module
		if word == d.node.Text && d.module == module || word == name+"."+d.node.Text && first {
			return d, true
		}
	}
	return definition{}, false
}

// uses returns the places of the uses of a program with their nodes.
func uses(p []api.Tree) (places []api.Place, nodes []api.Tree) {
	for m, t := range p {
		for _, at := range tree.Paths(t) {
			n, _ := tree.At(t, at)
			if n.Kind == api.Call || n.Kind == api.TName {
				places, nodes = append(places, place(m, at...)), append(nodes, n)
			}
		}
	}
	return places, nodes
}

func samePlace(a, b api.Place) bool {
	return a.Module == b.Module && slices.Equal(a.Path, b.Path)
}

func sameTarget(a, b api.Target) bool {
	return samePlace(a.Use, b.Use) && a.Module == b.Module && a.Def == b.Def && a.Free == b.Free
}

// words returns all texts of a program, qualified words of all its modules and
// definitions, and texts that mean nothing.
func words(p []api.Tree) []string {
	l := []string{"", ".", "x.y", "A.", ".f", "A.f.g", "unknown", "Unknown", "Unknown.f"}
	for _, t := range p {
		for _, at := range tree.Paths(t) {
			n, _ := tree.At(t, at)
			l = append(l, n.Text)
		}
		for _, d := range definitions(p) {
			l = append(l, t.Text+"."+d.node.Text)
		}
	}
	slices.Sort(l)
	return slices.Compact(l)
}

// checkProgram compares what is told of a program with the definitions.
func checkProgram(t *testing.T, p []api.Tree) {
	t.Helper()
	if !isProgram(p) {
		t.Fatalf("%v is not a program", p)
	}
	before := wholes(p)
	for _, word := range words(p) {
		for m := range p {
			checkMeaning(t, p, m, word)
		}
		for _, m := range []int{-1, len(p), math.MaxInt, math.MinInt} {
			checkMeaning(t, p, m, word)
		}
	}
	places, nodes := uses(p)
	var targets []api.Target
	for i, at := range places {
		d, found := meaning(p, at.Module, nodes[i].Text)
		targets = append(targets, api.Target{Use: at, Module: d.module, Def: d.def, Free: !found})
	}
	if got := link.Targets(p); !slices.EqualFunc(got, targets, sameTarget) {
		t.Fatalf("P6.2: Targets(%v) is\n%v, not\n%v", p, got, targets)
	}
	checkUses(t, p, targets)
	checkConsequences(t, p)
	if !slices.EqualFunc(wholes(p), before, tree.Same) {
		t.Fatalf("R2: %v is %v now", before, p)
	}
}

func checkMeaning(t *testing.T, p []api.Tree, module int, word string) {
	t.Helper()
	want, found := meaning(p, module, word)
	m, d, ok := link.Lookup(p, module, word)
	if m != want.module || d != want.def || ok != found {
		t.Fatalf("P6.1: Lookup(%v, %d, %q) is %d, %d, %t, not %d, %d, %t", p, module, word, m, d, ok, want.module, want.def, found)
	}
}

// checkUses checks Uses of all definitions, and of what is none.
func checkUses(t *testing.T, p []api.Tree, targets []api.Target) {
	t.Helper()
	for m := -1; m <= len(p); m++ {
		last := 1
		if m >= 0 && m < len(p) {
			last = len(p[m].Kids)
		}
		for d := -1; d <= last; d++ {
			var want []api.Place
			for _, x := range targets {
				if x.Module == m && x.Def == d && !x.Free {
					want = append(want, x.Use)
				}
			}
			if got := link.Uses(p, m, d); !slices.EqualFunc(got, want, samePlace) {
				t.Fatalf("P6.3: Uses(%v, %d, %d) is %v, not %v", p, m, d, got, want)
			}
		}
	}
}

// checkConsequences checks what follows from the promises for a program.
func checkConsequences(t *testing.T, p []api.Tree) {
	t.Helper()
	count := 0
	for _, d := range definitions(p) {
		l := link.Uses(p, d.module, d.def)
		count += len(l)
		first := slices.IndexFunc(p[d.module].Kids, func(k api.Tree) bool { return k.Text == d.node.Text })
		if first != d.def && len(l) > 0 {
			t.Fatalf("Consequences: definition %d of module %d of %v has uses, but is not the first one of its name", d.def, d.module, p)
		}
	}
	targets := link.Targets(p)
	for _, x := range targets {
		n, _ := tree.At(p[x.Use.Module], x.Use.Path)
		m, d, ok := link.Lookup(p, x.Use.Module, n.Text)
		if m != x.Module || d != x.Def || ok == x.Free {
			t.Fatalf("P6.2: %v has the target %v, but Lookup gives %d, %d, %t", p, x, m, d, ok)
		}
		if x.Free {
			count++
			continue
		}
		if !slices.ContainsFunc(link.Uses(p, m, d), func(use api.Place) bool { return samePlace(use, x.Use) }) {
			t.Fatalf("Consequences: %v has the target %v, which is not in Uses", p, x)
		}
		if function := p[m].Kids[d].Kind == api.Func; function != (n.Kind == api.Call) {
			t.Fatalf("P6.1: %v has the target %v of the other sort", p, x)
		}
		if !strings.Contains(n.Text, ".") && m != x.Use.Module {
			t.Fatalf("Consequences: %v has the target %v of another module", p, x)
		}
	}
	if count != len(targets) {
		t.Fatalf("Consequences: %v has %d uses, but %d that are free or in Uses", p, len(targets), count)
	}
}

// checkNothing checks what is told of a list that is no program.
func checkNothing(t *testing.T, p []api.Tree) {
	t.Helper()
	if isProgram(p) {
		t.Fatalf("%v is a program", p)
	}
	if got := link.Targets(p); len(got) != 0 {
		t.Fatalf("P6.2: Targets(%v) is %v", p, got)
	}
	for m := -1; m <= len(p); m++ {
		for _, word := range []string{"f", "T", "A", "A.f", "A.T", ""} {
			if m, d, ok := link.Lookup(p, m, word); ok || m != 0 || d != 0 {
				t.Fatalf("P6.1: Lookup(%v, %q) is %d, %d, %t", p, word, m, d, ok)
			}
		}
		for d := -1; d <= 2; d++ {
			if got := link.Uses(p, m, d); len(got) != 0 {
				t.Fatalf("P6.3: Uses(%v, %d, %d) is %v", p, m, d, got)
			}
		}
	}
}

// whole returns a copy of a tree with what lies in spare capacity, and wholes
// one of a list of trees.
func whole(x api.Tree) api.Tree {
	x.Leads = slices.Clone(x.Leads[:cap(x.Leads)])
	x.Kids = wholes(x.Kids)
	return x
}

func wholes(p []api.Tree) []api.Tree {
	l := slices.Clone(p[:cap(p)])
	for i, t := range l {
		l[i] = whole(t)
	}
	return l
}

// roomy returns trees equal to these, with spare capacity that is not zero in
// all slices.
func roomy(p []api.Tree) []api.Tree {
	l := []api.Tree{}
	for _, x := range p {
		leads := append([]string{}, x.Leads...)
		x.Leads = append(leads, "spare", "spare")[:len(leads)]
		x.Kids = roomy(x.Kids)
		l = append(l, x)
	}
	return append(l, node(api.Call, "f"), node(api.TName, "T"))[:len(l)]
}
