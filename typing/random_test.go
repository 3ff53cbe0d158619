package typing_test

import (
	"fmt"
	"math/rand"
	"slices"
	"strings"
	"testing"

	"semvcs/api"
	"semvcs/link"
	"semvcs/scope"
	"semvcs/tree"
	"semvcs/types"
	"semvcs/typing"
)

// grower makes random programs in which expressions have the types that are
// required, but for some of them.
type grower struct {
	*rand.Rand
	wrong    int  // in so many of 100 cases something is not as it must be
	holes    bool // whether there are holes
	distinct bool // whether no two definitions of a module have the same name
	p        []api.Tree
	module   int
	around   []variable
}

// variable is a binder with its type as a text.
type variable struct{ name, of string }

func (g *grower) one(l ...string) string { return l[g.Intn(len(l))] }

func (g *grower) slip() bool { return g.Intn(100) < g.wrong }

// program is a random program of so many modules with so many definitions.
func (g *grower) program(modules, defs int) []api.Tree {
	g.p = nil
	for m := range modules {
		x := node(api.Module, string(rune('A'+m)))
		if g.slip() {
			x.Text = "A"
		}
		for d := range defs {
			x.Kids = append(x.Kids, g.definition(d))
		}
		g.p = append(g.p, x)
	}
	for m, t := range g.p {
		for d, f := range t.Kids {
			if f.Kind == api.Func {
				g.module, g.around = m, g.parameters(f)
				last := len(f.Kids) - 1
				g.p[m].Kids[d].Kids[last] = g.expression(g.text(m, f.Kids[last-1]), 4)
			}
		}
	}
	return g.p
}

// definition is one without a body.
func (g *grower) definition(d int) api.Tree {
	if !g.distinct {
		d = g.Intn(4)
	}
	if g.Intn(4) == 0 {
		return node(api.Alias, fmt.Sprint("T", d), g.declared())
	}
	f := node(api.Func, fmt.Sprint("f", d))
	for range g.Intn(3) {
		f.Kids = append(f.Kids, node(api.Param, g.name(), g.declared()))
	}
	f.Kids = append(f.Kids, g.declared(), node(api.Hole, ""))
	return f
}

func (g *grower) name() string { return g.one("x", "y", "z") }

// declared is a type; without slips it is one without names or the name of an
// alias that there is already.
func (g *grower) declared() api.Tree {
	switch {
	case g.slip():
		return node(api.TName, g.one("A.", "B.", "")+fmt.Sprint("T", g.Intn(5)))
	case g.Intn(3) == 0:
		for m, t := range g.p {
			for d, k := range t.Kids {
				word := t.Text + "." + k.Text
				if n, i, _ := link.Lookup(g.p, 0, word); k.Kind == api.Alias && g.Intn(2) == 0 && n == m && i == d {
					return node(api.TName, word)
				}
			}
		}
	case g.Intn(3) == 0:
		return node(api.TList, "", g.declared())
	}
	return node(api.TInt+g.Intn(3), "")
}

// text is what a type means, as a text.
func (g *grower) text(module int, t api.Tree) string {
	x, e := types.Expand(g.p, module, t)
	if e != api.OK {
		return ""
	}
	return text(x)
}

func (g *grower) parameters(f api.Tree) []variable {
	var l []variable
	for _, k := range slices.Backward(f.Kids[:len(f.Kids)-2]) {
		l = append(l, variable{k.Text, g.text(g.module, k.Kids[0])})
	}
	return l
}

// expression is one of this type, if nothing slips.
func (g *grower) expression(want string, depth int) api.Tree {
	if g.slip() || want == "" {
		want = g.one("Int", "Text", "Bool", "[Int]", "[[Text]]")
	}
	switch n := g.Intn(12); {
	case g.holes && g.Intn(6) == 0:
		return node(api.Hole, "")
	case g.slip():
		return node(api.Var, g.name())
	case depth == 0 || n < 2:
		return g.leaf(want)
	case n < 5:
		return g.call(want, depth-1)
	case n < 6:
		return node(api.Paren, "", g.expression(want, depth-1))
	case n < 7:
		return node(api.If, "", g.expression("Bool", depth-1), g.expression(want, depth-1), g.expression(want, depth-1))
	case n < 9:
		return g.let(want, depth-1)
	}
	return g.operation(want, depth-1)
}

// leaf is a variable or a literal.
func (g *grower) leaf(want string) api.Tree {
	var names []string
	for _, v := range slices.Backward(g.around) {
		if !slices.Contains(names, v.name) {
			names = append(names, v.name)
			if v.of == want && g.Intn(3) > 0 {
				return node(api.Var, v.name)
			}
		}
	}
	switch inner, list := strings.CutPrefix(want, "["); {
	case list:
		l := node(api.List, "")
		for range 1 + g.Intn(3) {
			l.Kids = append(l.Kids, g.expression(strings.TrimSuffix(inner, "]"), 0))
		}
		return l
	case want == "Int":
		return node(api.Num, "1")
	case want == "Text":
		return node(api.Str, `"a"`)
	}
	return node(api.True+g.Intn(2), "")
}

// call is one of a function with this result, or with another one.
func (g *grower) call(want string, depth int) api.Tree {
	type callee struct {
		word   string
		module int
		f      api.Tree
	}
	var l []callee
	for m, t := range g.p {
		for d, f := range t.Kids {
			word := t.Text + "." + f.Text
			if n, i, _ := link.Lookup(g.p, 0, word); f.Kind == api.Func && n == m && i == d && (g.text(m, f.Kids[len(f.Kids)-2]) == want || g.slip()) {
				l = append(l, callee{word, m, f})
			}
		}
	}
	if len(l) == 0 || g.slip() {
		return g.leaf(want)
	}
	c := l[g.Intn(len(l))]
	x := node(api.Call, c.word)
	if g.slip() {
		x.Text = g.one("f1", "B.f0", "f2", "C.f3", "D.f")
	}
	for _, k := range c.f.Kids[:len(c.f.Kids)-2] {
		if !g.slip() {
			x.Kids = append(x.Kids, node(api.Arg, "", g.expression(g.text(c.module, k.Kids[0]), depth)))
		}
	}
	if g.slip() {
		x.Kids = append(x.Kids, node(api.Arg, "", g.expression("", depth)))
	}
	return x
}

func (g *grower) let(want string, depth int) api.Tree {
	name, of := g.name(), g.one("Int", "Text", "Bool", "[Int]", "[[Text]]")
	value := g.expression(of, depth)
	around := g.around
	g.around = append(slices.Clone(around), variable{name, of})
	body := g.expression(want, depth)
	g.around = around
	return node(api.Let, name, value, body)
}

func (g *grower) operation(want string, depth int) api.Tree {
	word, left := g.one("+", "-", "*"), want
	switch want {
	case "Int":
	case "Text":
		word = "+"
	case "Bool":
		word, left = g.one("<", "=="), "Int"
		if word == "==" {
			left = g.one("Int", "Text", "Bool", "[Int]")
		}
	default:
		return g.leaf(want)
	}
	a, b := g.expression(left, depth), g.expression(left, depth)
	if a.Kind == api.If || a.Kind == api.Let {
		a = node(api.Paren, "", a)
	}
	if b.Kind == api.If || b.Kind == api.Let || b.Kind == api.Bin {
		b = node(api.Paren, "", b)
	}
	return node(api.Bin, word, a, b)
}

func newGrower(seed int64, wrong int) *grower {
	return &grower{Rand: rand.New(rand.NewSource(seed)), wrong: wrong}
}

// role is where an expression stands.
func role(p []api.Tree, x api.TypeError) string {
	kind, _, _ := strings.Cut(showError(x), "@")
	t, _ := tree.At(p[x.At.Module], x.At.Path)
	if isExpression(t) && x.Kind != api.FaultFree && x.Kind != api.FaultCount {
		last := len(x.At.Path) - 1
		up, _ := tree.At(p[x.At.Module], x.At.Path[:last])
		if up.Kind == api.Bin || up.Kind == api.If {
			return fmt.Sprint(kind, " in ", up.Kind, up.Text, " at ", x.At.Path[last])
		}
		return fmt.Sprint(kind, " in ", up.Kind)
	}
	return fmt.Sprint(kind, " of ", t.Kind)
}

func TestRandomPrograms(t *testing.T) {
	count := map[string]int{}
	for i := range 240 {
		g := newGrower(int64(i), []int{2, 6, 15, 40}[i%4])
		g.holes = i%3 == 0
		p := g.program(i%4, 1+g.Intn(6))
		checkProgram(t, p)
		l := typing.Errors(p)
		for k, x := range l {
			count[role(p, x)]++
			if k > 0 && slices.Equal(l[k-1].At.Path, x.At.Path) && l[k-1].At.Module == x.At.Module {
				count["two errors of one node"]++
			}
		}
	}
	for _, sort := range []string{
		"two errors of one node", fmt.Sprint("free of ", api.Var), fmt.Sprint("free of ", api.Call), fmt.Sprint("free of ", api.TName), fmt.Sprint("count of ", api.Call), fmt.Sprint("cycle of ", api.Alias),
		fmt.Sprint("type in ", api.Func), fmt.Sprint("type in ", api.Arg), fmt.Sprint("unlike in ", api.List), fmt.Sprint("type in ", api.If, " at 0"), fmt.Sprint("unlike in ", api.If, " at 2"),
		fmt.Sprint("type in ", api.Bin, "+ at 0"), fmt.Sprint("type in ", api.Bin, "+ at 1"), fmt.Sprint("unlike in ", api.Bin, "+ at 1"), fmt.Sprint("unlike in ", api.Bin, "== at 1"),
		fmt.Sprint("type in ", api.Bin, "- at 0"), fmt.Sprint("type in ", api.Bin, "- at 1"), fmt.Sprint("type in ", api.Bin, "* at 0"), fmt.Sprint("type in ", api.Bin, "* at 1"), fmt.Sprint("type in ", api.Bin, "< at 0"), fmt.Sprint("type in ", api.Bin, "< at 1"),
	} {
		if count[sort] < 5 {
			t.Errorf("only %d errors: %s", count[sort], sort)
		}
		delete(count, sort)
	}
	if len(count) > 0 {
		t.Errorf("other errors: %v", count)
	}
}

// TestRightPrograms has programs in which nothing slips.
func TestRightPrograms(t *testing.T) {
	nodes, unknown := 0, 0
	for i := range 24 {
		g := newGrower(int64(i), 0)
		g.distinct, g.holes = true, i%2 == 0
		p := g.program(3, 5)
		if l := typing.Errors(p); len(l) > 0 {
			t.Fatalf("P8.1: Errors of %v are %s", sources(p), show(l))
		}
		for m := range p {
			for _, at := range tree.Paths(p[m]) {
				x := api.Place{Module: m, Path: at}
				if k, _ := tree.At(p[m], at); !isExpression(k) {
					continue
				}
				nodes++
				if _, e := typing.Of(p, x); e == api.ErrType && dependsOnHole(p, x) {
					unknown++
				} else if e != api.OK {
					t.Fatalf("Consequences: in %v without errors the type at %v has the error %d", sources(p), x, e)
				}
			}
		}
		checkProgram(t, p)
	}
	if nodes < 1000 || unknown < 50 {
		t.Errorf("only %d expressions, %d of which have no known type", nodes, unknown)
	}
}

// dependsOnHole reports whether there is a hole in an expression, or in the
// value of a let to which a variable in it refers.
func dependsOnHole(p []api.Tree, x api.Place) bool {
	f := p[x.Module].Kids[x.Path[0]]
	t, _ := tree.At(p[x.Module], x.Path)
	for _, at := range tree.Paths(t) {
		k, _ := tree.At(t, at)
		if k.Kind == api.Hole {
			return true
		}
		b, found := scope.Binder(f, slices.Concat(x.Path[1:], at), k.Text)
		if k.Kind == api.Var && found {
			if binder, _ := tree.At(f, b); binder.Kind == api.Let && dependsOnHole(p, api.Place{Module: x.Module, Path: slices.Concat(x.Path[:1], b, []int{0})}) {
				return true
			}
		}
	}
	return false
}

// TestLeadsDoNotMatter has leads that are too few, too many or no trivia.
func TestLeadsDoNotMatter(t *testing.T) {
	for i := range 40 {
		g := newGrower(int64(i), 10)
		var spoil func(p []api.Tree)
		spoil = func(p []api.Tree) {
			for i := range p {
				for range g.Intn(4) {
					p[i].Leads = append(p[i].Leads, g.one("", " ", "#\n", "#", "T", "\x00"))
				}
				spoil(p[i].Kids)
			}
		}
		p := roomy(g.program(3, 3))
		before := show(typing.Errors(p))
		spoil(p)
		if after := show(typing.Errors(p)); after != before {
			t.Fatalf("Consequences: Errors of %v are %s, but with other leads %s", sources(p), before, after)
		}
		checkProgram(t, p)
	}
}

// TestOrderDoesNotMatter has definitions in another order.
func TestOrderDoesNotMatter(t *testing.T) {
	all := 0
	for i := range 80 {
		g := newGrower(int64(i), 10)
		g.distinct = true
		p := g.program(3, 5)
		before := byNames(p)
		for m := range p {
			kids := p[m].Kids
			g.Shuffle(len(kids), func(i, j int) { kids[i], kids[j] = kids[j], kids[i] })
		}
		if after := byNames(p); !slices.Equal(before, after) {
			t.Fatalf("Consequences: Errors of %v are %v, but %v in another order", sources(p), after, before)
		}
		all += len(before)
	}
	if all < 200 {
		t.Errorf("only %d errors", all)
	}
}

// byNames are the errors of a program as texts, with the names of definitions,
// in ascending order.
func byNames(p []api.Tree) []string {
	var l []string
	for _, x := range typing.Errors(p) {
		name := p[x.At.Module].Kids[x.At.Path[0]].Text
		x.At.Path = x.At.Path[1:]
		l = append(l, showError(x)+" in "+name)
	}
	slices.Sort(l)
	return l
}

// TestNamesDoNotMatter gives each binder a name of its own, with the variables
// that refer to it.
func TestNamesDoNotMatter(t *testing.T) {
	renamed := 0
	for i := range 80 {
		g := newGrower(int64(i), 8)
		p := g.program(3, 4)
		before := show(typing.Errors(p))
		for m := range p {
			for d, f := range p[m].Kids {
				var n int
				p[m].Kids[d], n = fresh(f)
				renamed += n
			}
		}
		if after := show(typing.Errors(p)); after != before {
			t.Fatalf("Consequences: Errors of %v are %s, but %s with other names", sources(p), after, before)
		}
	}
	if renamed < 300 {
		t.Errorf("only %d variables have another name", renamed)
	}
}

// fresh returns a definition in which all binders have different names, and the
// number of variables that have changed with them.
func fresh(f api.Tree) (api.Tree, int) {
	names := map[string]string{}
	n := 0
	variables := scope.Variables(f)
	for _, at := range tree.Paths(f) {
		x, _ := tree.At(f, at)
		if x.Kind == api.Param || x.Kind == api.Let {
			names[fmt.Sprint(at)] = fmt.Sprint("v", len(names))
		}
	}
	for _, at := range tree.Paths(f) {
		x, _ := tree.At(f, at)
		name := names[fmt.Sprint(at)]
		if i := slices.IndexFunc(variables, func(v api.Variable) bool { return slices.Equal(v.Path, at) && !v.Free }); i >= 0 {
			name = names[fmt.Sprint(variables[i].Binder)]
			n++
		}
		if name != "" {
			x.Text = name
			f, _ = tree.Replace(f, at, x)
		}
	}
	return f, n
}

// TestDamagedPrograms puts what cannot stand there in place of each node.
func TestDamagedPrograms(t *testing.T) {
	for i := range 3 {
		p := newGrower(int64(i), 20).program(2, 2)
		for m := range p {
			for _, at := range tree.Paths(p[m]) {
				for _, u := range []api.Tree{{}, node(api.Module, "m"), node(api.Call, "F"), node(api.TName, "t"), node(api.Paren+1, "")} {
					x, _ := tree.Replace(p[m], at, u)
					l := slices.Clone(p)
					l[m] = x
					checkNothing(t, l)
				}
			}
		}
	}
}

// TestParts has all nodes of programs, but for their roots, among modules.
func TestParts(t *testing.T) {
	for i := range 4 {
		p := newGrower(int64(i), 20).program(2, 2)
		for _, m := range p {
			for _, at := range tree.Paths(m)[1:] {
				part, _ := tree.At(m, at)
				checkNothing(t, []api.Tree{part})
				checkNothing(t, append(slices.Clone(p), part))
			}
		}
	}
}

// TestAnyOrder has the modules of a program in other orders, and some of them.
func TestAnyOrder(t *testing.T) {
	for i := range 20 {
		g := newGrower(int64(i), 10)
		p := g.program(4, 2)
		g.Shuffle(len(p), func(i, j int) { p[i], p[j] = p[j], p[i] })
		for m := range p {
			checkProgram(t, p[m:])
			checkProgram(t, p[:m])
		}
	}
}
