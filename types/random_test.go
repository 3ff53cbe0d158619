package types_test

import (
	"math/rand"
	"slices"
	"testing"

	"semvcs/api"
	"semvcs/tree"
	"semvcs/types"
)

// grower makes random programs of few names, so that there are several modules
// and definitions of one name, and many aliases of aliases.
type grower struct {
	*rand.Rand
}

func (g grower) one(l ...string) string {
	return l[g.Intn(len(l))]
}

func (g grower) upper() string { return g.one("A", "T", "U", "V", "W", "X") }

// program is a random program of so many modules with so many definitions.
func (g grower) program(modules, defs int) []api.Tree {
	var p []api.Tree
	for range modules {
		m := node(api.Module, g.one("A", "B", "T"))
		for range defs {
			m.Kids = append(m.Kids, g.definition())
		}
		p = append(p, m)
	}
	return p
}

func (g grower) definition() api.Tree {
	if g.Intn(5) > 0 {
		return node(api.Alias, g.upper(), g.typing())
	}
	f := node(api.Func, g.one("f", "g"))
	for range g.Intn(3) {
		f.Kids = append(f.Kids, node(api.Param, "x", g.typing()))
	}
	body := node(api.Call, g.one("f", "A.g"), node(api.Arg, "", node(api.Var, "x")), node(api.Arg, "", node(api.Call, "B.f")))
	f.Kids = append(f.Kids, g.typing(), body)
	return f
}

func (g grower) typing() api.Tree {
	switch g.Intn(12) {
	case 0, 1, 2:
		return node(api.TList, "", g.typing())
	case 3, 4, 5:
		return node(api.TInt+g.Intn(3), "")
	case 6, 7, 8:
		return node(api.TName, g.one("A", "A", "B", "T")+"."+g.upper())
	}
	return node(api.TName, g.upper())
}

// steps returns how many aliases Expand of a type meets at most once.
func steps(p []api.Tree, module int, t api.Tree) int {
	n := 0
	for l := definitions(p); n < len(l); n++ {
		for t.Kind == api.TList {
			t = t.Kids[0]
		}
		d := meaning(p, module, t.Text)
		if t.Kind != api.TName || d < 0 {
			break
		}
		module, t = l[d].module, l[d].node.Kids[0]
	}
	return n
}

func TestRandomPrograms(t *testing.T) {
	g := grower{rand.New(rand.NewSource(1))}
	count := map[string]int{}
	for range 250 {
		p := g.program(g.Intn(4), 1+g.Intn(12))
		checkProgram(t, p)
		leads := leading(p)
		for i, d := range definitions(p) {
			if d.node.Kind != api.Alias {
				continue
			}
			x := d.node.Kids[0]
			_, e := expansion(p, d.module, x)
			switch {
			case e == api.OK && steps(p, d.module, x) > 1:
				count["known after several steps"]++
			case e == api.OK && steps(p, d.module, x) > 0:
				count["known after a step"]++
			case e == api.ErrNone && steps(p, d.module, x) > 0:
				count["none after a step"]++
			case leads[i][i]:
				count["circular"]++
			case e == api.ErrCycle:
				count["leads to others in a cycle"]++
			}
			if m := meaning(p, d.module, d.node.Text); e == api.OK && m != i {
				count["is not the first one of its name"]++
			}
		}
	}
	for _, sort := range []string{"known after several steps", "known after a step", "none after a step", "circular", "leads to others in a cycle", "is not the first one of its name"} {
		if count[sort] < 30 {
			t.Errorf("only %d aliases: %s", count[sort], sort)
		}
	}
}

func TestRandomTypesAreEqual(t *testing.T) {
	g := grower{rand.New(rand.NewSource(2))}
	same, other := 0, 0
	for range 30 {
		n, m := checkEqual(t, g.program(1+g.Intn(3), 1+g.Intn(4)))
		same, other = same+n, other+m
	}
	if same < 1000 || other < 1000 {
		t.Errorf("only %d pairs are equal and %d are not", same, other)
	}
}

// TestEqualIsTransitive takes any three types.
func TestEqualIsTransitive(t *testing.T) {
	g := grower{rand.New(rand.NewSource(3))}
	for range 20 {
		p := g.program(2, 3)
		l := someTypes(p)
		for range 300 {
			a, b, c := l[g.Intn(len(l))], l[g.Intn(len(l))], l[g.Intn(len(l))]
			m, n, o := g.Intn(2), g.Intn(2), g.Intn(2)
			if types.Equal(p, m, a, n, b) && types.Equal(p, n, b, o, c) && !types.Equal(p, m, a, o, c) {
				t.Fatalf("Consequences: in %v Equal is not transitive for %v, %v and %v in %d, %d and %d", p, a, b, c, m, n, o)
			}
			if types.Equal(p, m, a, n, b) != types.Equal(p, n, b, m, a) {
				t.Fatalf("Consequences: in %v Equal is not symmetric for %v and %v in %d and %d", p, a, b, m, n)
			}
		}
	}
}

// TestLeadsDoNotMatter has leads that are too few, too many or no trivia.
func TestLeadsDoNotMatter(t *testing.T) {
	g := grower{rand.New(rand.NewSource(4))}
	var spoil func(p []api.Tree)
	spoil = func(p []api.Tree) {
		for i := range p {
			for range g.Intn(4) {
				p[i].Leads = append(p[i].Leads, g.one("", " ", "#\n", "#", "T", "\x00"))
			}
			spoil(p[i].Kids)
		}
	}
	for range 60 {
		p := roomy(g.program(3, 3))
		spoil(p)
		checkProgram(t, p)
	}
}

// TestFunctionsDoNotMatter takes the functions away, but for their places.
func TestFunctionsDoNotMatter(t *testing.T) {
	g := grower{rand.New(rand.NewSource(5))}
	for range 60 {
		p, q := g.program(3, 4), []api.Tree{}
		for _, m := range p {
			m.Kids = slices.Clone(m.Kids)
			for i, d := range m.Kids {
				if d.Kind == api.Func {
					m.Kids[i] = node(api.Func, "h", node(api.TName, "None"), node(api.Hole, ""))
				}
			}
			q = append(q, m)
		}
		for m := range p {
			for _, x := range someTypes(p) {
				a, e := types.Expand(p, m, x)
				if b, err := types.Expand(q, m, x); e != err || !tree.Same(a, b) {
					t.Fatalf("P7.1: Expand(%v, %d, %v) is %v, %d, but %v, %d with other functions", p, m, x, a, e, b, err)
				}
			}
			for d := range p[m].Kids {
				if types.Circular(p, m, d) != types.Circular(q, m, d) {
					t.Fatalf("P7.2: Circular(%v, %d, %d) is another one with other functions", p, m, d)
				}
			}
		}
	}
}

// TestDamagedPrograms puts what cannot stand there in place of each node.
func TestDamagedPrograms(t *testing.T) {
	g := grower{rand.New(rand.NewSource(6))}
	for range 15 {
		p := g.program(3, 3)
		for m := range p {
			for _, at := range tree.Paths(p[m]) {
				for _, u := range []api.Tree{{}, node(api.Module, "m"), node(api.Call, "F"), node(api.TName, "t"), node(api.Paren+1, "")} {
					x, _ := tree.Replace(p[m], at, u)
					l := slices.Clone(p)
					l[m] = x
					checkNothing(t, l)
				}
			}
		}
	}
}

// TestParts has all nodes of programs, but for their roots, among modules.
func TestParts(t *testing.T) {
	g := grower{rand.New(rand.NewSource(7))}
	for range 20 {
		p := g.program(3, 3)
		for _, m := range p {
			for _, at := range tree.Paths(m)[1:] {
				part, _ := tree.At(m, at)
				checkNothing(t, []api.Tree{part})
				checkNothing(t, append(slices.Clone(p), part))
			}
		}
	}
}

// TestAnyOrder has the modules of a program in other orders, and some of them.
func TestAnyOrder(t *testing.T) {
	g := grower{rand.New(rand.NewSource(8))}
	for range 40 {
		p := g.program(4, 3)
		g.Shuffle(len(p), func(i, j int) { p[i], p[j] = p[j], p[i] })
		for m := range p {
			checkProgram(t, p[m:])
			checkProgram(t, p[:m])
		}
	}
}
