package scope_test

import (
	"math/rand"
	"slices"
	"testing"

	"semvcs/api"
	"semvcs/scope"
	"semvcs/syntax"
	"semvcs/tree"
)

// grower makes random functions of few names, so that binders hide each other.
type grower struct {
	*rand.Rand
}

func (g grower) one(l ...string) string {
	return l[g.Intn(len(l))]
}

func (g grower) name() string {
	return g.one("x", "y", "z", "x", "y", "x1", "x_", "xx")
}

// function is a random function whose body has at most so many levels.
func (g grower) function(levels int) api.Tree {
	var kids []api.Tree
	for range g.Intn(5) {
		kids = append(kids, node(api.Param, g.name(), g.typing()))
	}
	kids = append(kids, g.typing(), g.expression(levels))
	return node(api.Func, g.one("f", "x", "y"), kids...)
}

func (g grower) typing() api.Tree {
	switch g.Intn(3) {
	case 0:
		return node(api.TList, "", g.typing())
	case 1:
		return node(api.TName, g.one("A", "X", "M.A"))
	}
	return node(api.TInt, "")
}

func (g grower) expression(levels int) api.Tree {
	if levels > 1 {
		switch g.Intn(5) {
		case 0, 1:
			return node(api.Let, g.name(), g.expression(levels-1), g.expression(levels-1))
		case 2:
			return node(api.If, "", g.expression(levels-1), g.expression(levels-1), g.expression(levels-1))
		case 3:
			first := g.unit(levels - 1)
			for range g.Intn(3) {
				first = node(api.Bin, g.one("+", "<", "=="), first, g.unit(levels-1))
			}
			return first
		}
	}
	return g.unit(levels)
}

func (g grower) unit(levels int) api.Tree {
	if levels > 1 {
		switch g.Intn(5) {
		case 0:
			return node(api.Paren, "", g.expression(levels-1))
		case 1:
			return node(api.List, "", g.several(1, levels)...)
		case 2:
			call := node(api.Call, g.one("f", "x", "M.x"), g.several(0, levels)...)
			for i, k := range call.Kids {
				call.Kids[i] = node(api.Arg, "", k)
			}
			return call
		}
	}
	switch g.Intn(10) {
	case 0:
		return node(api.Num, "1")
	case 1:
		return node(api.Str, `"x"`)
	case 2:
		return node(api.Hole, "")
	}
	return node(api.Var, g.name())
}

// several returns least to least + 2 expressions.
func (g grower) several(least, levels int) []api.Tree {
	var l []api.Tree
	for range least + g.Intn(3) {
		l = append(l, g.expression(levels-1))
	}
	return l
}

func TestRandomFunctions(t *testing.T) {
	g := grower{rand.New(rand.NewSource(1))}
	count := map[string]int{}
	for range 500 {
		f := g.function(1 + g.Intn(5))
		checkFunction(t, f)
		for _, v := range scope.Variables(f) {
			b, _ := tree.At(f, v.Binder)
			switch {
			case v.Free:
				count["free"]++
			case b.Kind == api.Let:
				count["let"]++
			default:
				count["parameter"]++
			}
		}
	}
	for _, kind := range []string{"free", "let", "parameter"} {
		if count[kind] < 200 {
			t.Errorf("only %d variables: %s", count[kind], kind)
		}
	}
}

// TestLeadsDoNotMatter has leads that are too few, too many or no trivia.
func TestLeadsDoNotMatter(t *testing.T) {
	g := grower{rand.New(rand.NewSource(2))}
	var spoil func(x *api.Tree)
	spoil = func(x *api.Tree) {
		for range g.Intn(4) {
			x.Leads = append(x.Leads, g.one("", " ", "#\n", "#", "x", "\x00"))
		}
		for i := range x.Kids {
			spoil(&x.Kids[i])
		}
	}
	for range 100 {
		f := roomy(g.function(1 + g.Intn(4)))
		want := scope.Variables(f)
		spoil(&f)
		checkFunction(t, f)
		if got := scope.Variables(f); !slices.EqualFunc(got, want, sameVariable) {
			t.Fatalf("P5.2: Variables(%v) is %v, not %v", f, got, want)
		}
	}
}

// TestDamagedFunctions puts what cannot stand there in place of each node.
func TestDamagedFunctions(t *testing.T) {
	g := grower{rand.New(rand.NewSource(3))}
	for range 50 {
		f := g.function(1 + g.Intn(3))
		for _, at := range tree.Paths(f) {
			for _, u := range []api.Tree{{}, node(api.Module, "m"), node(api.Var, "M.x"), node(api.Let, "x"), node(api.Paren+1, "")} {
				x, _ := tree.Replace(f, at, u)
				checkNothing(t, x)
			}
		}
	}
}

// TestParts has all nodes of functions, but for their roots.
func TestParts(t *testing.T) {
	g := grower{rand.New(rand.NewSource(4))}
	for range 100 {
		for _, n := range items(g.function(1 + g.Intn(4)))[1:] {
			checkNothing(t, n.node)
		}
	}
}

// TestAnyTrees has trees of arbitrary nodes, of which few are functions.
func TestAnyTrees(t *testing.T) {
	g := grower{rand.New(rand.NewSource(5))}
	var anything func(levels int) api.Tree
	anything = func(levels int) api.Tree {
		kinds := []int{api.Func, api.Param, api.TInt, api.Let, api.Let, api.Var, api.Var, api.Bin, api.Paren}
		x := node(kinds[g.Intn(len(kinds))], g.one("", "x", "y", "+"))
		for levels > 0 && g.Intn(3) > 0 {
			x.Kids = append(x.Kids, anything(levels-1))
		}
		return x
	}
	functions := 0
	for range 20000 {
		x := anything(1)
		if g.Intn(2) == 0 {
			x = node(api.Func, "f", append(x.Kids, node(api.TInt, ""), anything(1))...)
		}
		if x.Kind == api.Func && syntax.Shaped(x) {
			functions++
			checkFunction(t, x)
		} else {
			checkNothing(t, x)
		}
	}
	if functions < 100 {
		t.Errorf("only %d of the trees are functions", functions)
	}
}

// TestRenaming renames each binder with its variables.
func TestRenaming(t *testing.T) {
	g := grower{rand.New(rand.NewSource(6))}
	renamed := 0
	for range 500 {
		f := g.function(1 + g.Intn(5))
		variables := scope.Variables(f)
		for _, n := range items(f) {
			if n.node.Kind != api.Let && n.node.Kind != api.Param {
				continue
			}
			places := [][]int{n.path}
			for _, v := range variables {
				if slices.Equal(v.Binder, n.path) {
					places = append(places, v.Path)
				}
			}
			h := withText(f, places, "new")
			if got := scope.Variables(h); !slices.EqualFunc(got, variables, sameVariable) {
				t.Fatalf("Consequences: the variables of %v with another name of %v are\n%v, not\n%v", f, n.path, got, variables)
			}
			renamed++
		}
	}
	if renamed < 1000 {
		t.Errorf("only %d binders were renamed", renamed)
	}
}

// withText returns f with another text at these places.
func withText(f api.Tree, places [][]int, text string) api.Tree {
	for _, at := range places {
		n, _ := tree.At(f, at)
		n.Text = text
		f, _ = tree.Replace(f, at, n)
	}
	return f
}
