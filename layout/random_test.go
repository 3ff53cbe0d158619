package layout_test

import (
	"math/rand"
	"slices"
	"strings"
	"testing"

	"semvcs/api"
	"semvcs/layout"
	"semvcs/lex"
	"semvcs/syntax"
	"semvcs/tree"
)

// grower makes random sources.
type grower struct {
	*rand.Rand
	tokens []string
}

func (g *grower) write(tokens string) {
	g.tokens = append(g.tokens, strings.Fields(tokens)...)
}

// one writes one of these tokens.
func (g *grower) one(tokens string) {
	l := strings.Fields(tokens)
	g.write(l[g.Intn(len(l))])
}

// items writes items with commas between them.
func (g *grower) items(n int, item func()) {
	for i := range n {
		if i > 0 {
			g.write(",")
		}
		item()
	}
}

func (g *grower) module(levels int) {
	g.write("module M")
	for range g.Intn(4) {
		if g.Intn(3) == 0 {
			g.write("type A =")
			g.typing()
			continue
		}
		g.write("def f (")
		g.items(g.Intn(4), g.parameter)
		g.write(") :")
		g.typing()
		g.write("=")
		g.expression(levels)
	}
}

func (g *grower) parameter() {
	g.one("x y z_1")
	g.write(":")
	g.typing()
}

func (g *grower) typing() {
	if g.Intn(3) == 0 {
		g.write("[")
		g.typing()
		g.write("]")
		return
	}
	g.one("Int Text Bool A N.B")
}

func (g *grower) expression(levels int) {
	below := func() { g.expression(levels - 1) }
	kind := g.Intn(5)
	if levels <= 0 {
		kind = 4
	}
	switch kind {
	case 0:
		g.write("let x =")
		below()
		g.write("in")
		below()
	case 1:
		g.write("if")
		below()
		g.write("then")
		below()
		g.write("else")
		below()
	default:
		g.unit(levels)
		for range g.Intn(3) {
			g.one("+ - * < ==")
			g.unit(levels)
		}
	}
}

func (g *grower) unit(levels int) {
	kind := g.Intn(6)
	if levels <= 0 {
		kind = 5
	}
	below := func() { g.expression(levels - 1) }
	switch kind {
	case 0, 1:
		g.one("f g M.f")
		g.write("(")
		g.items(g.Intn(4), below)
		g.write(")")
	case 2, 3:
		g.write("[")
		g.items(1+g.Intn(3), below)
		g.write("]")
	case 4:
		g.write("(")
		below()
		g.write(")")
	case 5:
		g.one(`0 12 x y true false ? "" "a" "#" "(" "'#[" x0`)
	}
}

// lead is random trivia, not empty if some must be there.
func (g *grower) lead(some bool) string {
	l := []string{" ", "\n\n", "\t\r\n ", "#\n", " # a \"# \n", "#a\r\n\n #\"b\n  ", "##\t\n", "", "", "", ""}
	if some {
		l = l[:7]
	}
	return l[g.Intn(len(l))]
}

// source is a random source; it may be too long.
func (g *grower) source() string {
	g.tokens = nil
	g.module(g.Intn(4))
	text, last := "", ""
	for _, x := range g.tokens {
		text += g.lead(lex.Fuses(last, x)) + x
		last = x
	}
	return text + g.lead(false) + []string{"", "", "#", "# end \"", "#\r"}[g.Intn(5)]
}

// trees returns the trees of random sources, each with all trees in it, in
// slices with spare capacity.
func (g *grower) trees(sources int) []api.Tree {
	var l []api.Tree
	for sources > 0 {
		x, _, e := syntax.Parse(g.source())
		if e != api.OK {
			continue
		}
		for _, n := range nodes(&x) {
			l = append(l, clone(*n))
		}
		sources--
	}
	return l
}

func TestRandomTrees(t *testing.T) {
	g := grower{Rand: rand.New(rand.NewSource(1))}
	kinds := map[int]int{}
	for _, x := range g.trees(300) {
		checkShaped(t, x)
		checkComments(t, x)
		kinds[x.Kind]++
	}
	for kind := api.Module; kind <= api.Paren; kind++ {
		if kinds[kind] < 20 {
			t.Errorf("only %d trees of kind %d", kinds[kind], kind)
		}
	}
}

func TestSourcesOfTheParser(t *testing.T) {
	g := grower{Rand: rand.New(rand.NewSource(2))}
	for sources := 0; sources < 200; {
		x, _, e := syntax.Parse(g.source())
		if e != api.OK {
			continue
		}
		sources++
		checkShaped(t, x)
		checkComments(t, x)
	}
}

// TestDamagedLeads has trees of the right shape whose leads are too few, too
// many or no trivia.
func TestDamagedLeads(t *testing.T) {
	g := grower{Rand: rand.New(rand.NewSource(3))}
	damages := []func(l []string) []string{
		func(l []string) []string { return append(l, "") },
		func(l []string) []string { return append(l, " #a\n") },
		func(l []string) []string { return append([]string{"#a\n"}, l...) },
		func(l []string) []string { return l[:max(0, len(l)-1)] },
		func(l []string) []string { return nil },
		func(l []string) []string { l[0] = "x"; return l },
		func(l []string) []string { l[0] = "#\n\x00"; return l },
		func(l []string) []string { l[0] = "# not ended"; return l },
		func(l []string) []string { l[len(l)-1] = "\f"; return l },
		func(l []string) []string { l[len(l)-1] += "#\n#\x7f"; return l },
	}
	for _, x := range g.trees(30) {
		all := nodes(&x)
		n := all[g.Intn(len(all))]
		if n.Kind == api.Arg {
			continue
		}
		kept := slices.Clone(n.Leads)
		for _, damage := range damages {
			n.Leads = damage(slices.Clone(kept))
			checkShaped(t, x)
			checkNoComments(t, x)
			n.Leads = kept
		}
	}
}

// TestDamagedShapes puts what cannot stand there in place of each node.
func TestDamagedShapes(t *testing.T) {
	g := grower{Rand: rand.New(rand.NewSource(4))}
	for _, x := range g.trees(10) {
		for _, path := range tree.Paths(x) {
			for _, u := range []api.Tree{{}, {Kind: api.Module, Text: "m"}, {Kind: api.Paren + 1}} {
				y, ok := tree.Replace(x, path, u)
				if !ok {
					t.Fatalf("%v has no node at %v", x, path)
				}
				checkNoShape(t, y)
			}
		}
	}
}

// TestOneLead changes one lead of an arranged tree.
func TestOneLead(t *testing.T) {
	g := grower{Rand: rand.New(rand.NewSource(5))}
	for _, x := range g.trees(10) {
		x = layout.Arrange(x)
		for _, n := range nodes(&x) {
			for i, lead := range n.Leads {
				for _, other := range []string{"", " ", "\n", "\n\n", lead + " ", lead + "#\n"} {
					n.Leads[i] = other
					if layout.Canonical(x) != (other == lead) {
						t.Fatalf("P4.1: Canonical(%v) is wrong about %q in place of %q", x, other, lead)
					}
				}
				n.Leads[i] = lead
			}
		}
	}
}

// TestAnyTrees has trees of arbitrary nodes, of which few have the right shape.
func TestAnyTrees(t *testing.T) {
	g := grower{Rand: rand.New(rand.NewSource(6))}
	var anything func(levels int) api.Tree
	anything = func(levels int) api.Tree {
		x := api.Tree{Kind: g.Intn(api.Paren+3) - 1, Text: []string{"", "f", "M", "M.f", "1", "+", "(", "\"#\""}[g.Intn(8)]}
		for range g.Intn(4) {
			x.Leads = append(x.Leads, g.lead(false))
		}
		for levels > 0 && g.Intn(3) > 0 {
			x.Kids = append(x.Kids, anything(levels-1))
		}
		return x
	}
	shaped := 0
	for range 20000 {
		x := anything(g.Intn(4))
		if !syntax.Shaped(x) {
			checkNoShape(t, x)
			continue
		}
		shaped++
		checkShaped(t, x)
		if syntax.Print(x) == "" {
			checkNoComments(t, x)
		} else {
			checkComments(t, x)
		}
	}
	if shaped < 100 {
		t.Errorf("only %d trees have the right shape", shaped)
	}
}
