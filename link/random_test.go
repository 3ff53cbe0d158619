package link_test

import (
	"math/rand"
	"slices"
	"strings"
	"testing"

	"semvcs/api"
	"semvcs/link"
	"semvcs/tree"
)

// grower makes random programs of few names, so that there are several
// modules and definitions of one name.
type grower struct {
	*rand.Rand
}

func (g grower) one(l ...string) string {
	return l[g.Intn(len(l))]
}

// qualified is a word, or one of a module.
func (g grower) qualified(word string) string {
	if g.Intn(2) == 0 {
		return word
	}
	return g.one("A", "B", "C", "T") + "." + word
}

func (g grower) lower() string { return g.one("f", "g", "h", "ff") }
func (g grower) upper() string { return g.one("A", "B", "T", "U") }

// program is a random program whose definitions have few levels.
func (g grower) program() []api.Tree {
	var p []api.Tree
	for range g.Intn(5) {
		m := node(api.Module, g.one("A", "B", "T"))
		for range g.Intn(5) {
			m.Kids = append(m.Kids, g.definition())
		}
		p = append(p, m)
	}
	return p
}

func (g grower) definition() api.Tree {
	if g.Intn(3) == 0 {
		return node(api.Alias, g.upper(), g.typing())
	}
	f := node(api.Func, g.lower())
	for range g.Intn(3) {
		f.Kids = append(f.Kids, node(api.Param, g.lower(), g.typing()))
	}
	f.Kids = append(f.Kids, g.typing(), g.expression(1+g.Intn(4)))
	return f
}

func (g grower) typing() api.Tree {
	switch g.Intn(4) {
	case 0:
		return node(api.TList, "", g.typing())
	case 1:
		return node(api.TText, "")
	}
	return node(api.TName, g.qualified(g.upper()))
}

func (g grower) expression(levels int) api.Tree {
	if levels > 1 {
		switch g.Intn(6) {
		case 0:
			return node(api.Let, g.lower(), g.expression(levels-1), g.expression(levels-1))
		case 1:
			return node(api.If, "", g.expression(levels-1), g.expression(levels-1), g.expression(levels-1))
		case 2:
			return node(api.Bin, g.one("+", "<"), g.unit(levels-1), g.unit(levels-1))
		}
	}
	return g.unit(levels)
}

func (g grower) unit(levels int) api.Tree {
	if levels > 1 {
		switch g.Intn(4) {
		case 0:
			return node(api.Paren, "", g.expression(levels-1))
		case 1:
			return node(api.List, "", g.expression(levels-1), g.expression(levels-1))
		default:
			call := node(api.Call, g.qualified(g.lower()))
			for range g.Intn(3) {
				call.Kids = append(call.Kids, node(api.Arg, "", g.expression(levels-1)))
			}
			return call
		}
	}
	switch g.Intn(6) {
	case 0:
		return node(api.Var, g.lower())
	case 1:
		return node(api.Str, `"f"`)
	case 2:
		return node(api.Hole, "")
	}
	return node(api.Call, g.qualified(g.lower()))
}

func TestRandomPrograms(t *testing.T) {
	g := grower{rand.New(rand.NewSource(1))}
	count := map[string]int{}
	for range 400 {
		p := g.program()
		checkProgram(t, p)
		for _, x := range link.Targets(p) {
			n, _ := tree.At(p[x.Use.Module], x.Use.Path)
			sort := "call"
			if n.Kind == api.TName {
				sort = "type"
			}
			if strings.Contains(n.Text, ".") {
				sort = "qualified " + sort
			}
			switch {
			case x.Free:
				sort += ", free"
			case x.Module != x.Use.Module:
				sort += ", other module"
			default:
				sort += ", own module"
			}
			count[sort]++
		}
	}
	for _, sort := range []string{"call", "type", "qualified call", "qualified type"} {
		for _, target := range []string{", free", ", own module", ", other module"} {
			if count[sort+target] < 30 && (target != ", other module" || sort[0] == 'q') {
				t.Errorf("only %d uses: %s", count[sort+target], sort+target)
			}
		}
	}
}

// TestLeadsDoNotMatter has leads that are too few, too many or no trivia.
func TestLeadsDoNotMatter(t *testing.T) {
	g := grower{rand.New(rand.NewSource(2))}
	var spoil func(p []api.Tree)
	spoil = func(p []api.Tree) {
		for i := range p {
			for range g.Intn(4) {
				p[i].Leads = append(p[i].Leads, g.one("", " ", "#\n", "#", "f", "\x00"))
			}
			spoil(p[i].Kids)
		}
	}
	for range 100 {
		p := roomy(g.program())
		want := link.Targets(p)
		spoil(p)
		checkProgram(t, p)
		if got := link.Targets(p); !slices.EqualFunc(got, want, sameTarget) {
			t.Fatalf("P6.2: Targets(%v) is %v, not %v", p, got, want)
		}
	}
}

// TestDamagedPrograms puts what cannot stand there in place of each node.
func TestDamagedPrograms(t *testing.T) {
	g := grower{rand.New(rand.NewSource(3))}
	for range 15 {
		p := g.program()
		for m := range p {
			for _, at := range tree.Paths(p[m]) {
				for _, u := range []api.Tree{{}, node(api.Module, "m"), node(api.Call, "F"), node(api.TName, "t"), node(api.Paren+1, "")} {
					x, _ := tree.Replace(p[m], at, u)
					l := slices.Clone(p)
					l[m] = x
					checkNothing(t, l)
				}
			}
		}
	}
}

// TestParts has all nodes of programs, but for their roots, among modules.
func TestParts(t *testing.T) {
	g := grower{rand.New(rand.NewSource(4))}
	for range 30 {
		p := g.program()
		for _, m := range p {
			for _, at := range tree.Paths(m)[1:] {
				part, _ := tree.At(m, at)
				checkNothing(t, []api.Tree{part})
				checkNothing(t, append(slices.Clone(p), part))
			}
		}
	}
}

// TestAnyOrder has the modules of a program in other orders: what a definition
// is used by depends on the first module of a name only.
func TestAnyOrder(t *testing.T) {
	g := grower{rand.New(rand.NewSource(5))}
	for range 100 {
		p := g.program()
		g.Shuffle(len(p), func(i, j int) { p[i], p[j] = p[j], p[i] })
		checkProgram(t, p)
		for m := range p {
			checkProgram(t, p[m:])
			checkProgram(t, p[:m])
		}
	}
}
