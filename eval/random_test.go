package eval_test

import (
	"fmt"
	"math"
	"math/rand"
	"slices"
	"strings"
	"testing"

	"semvcs/api"
	"semvcs/eval"
	"semvcs/link"
	"semvcs/scope"
	"semvcs/tree"
	"semvcs/types"
	"semvcs/typing"
)

// grower makes random programs in which expressions have the types that are
// required, but for some of them.
type grower struct {
	*rand.Rand
	wrong  int // in so many of 100 cases something is not as it must be
	holes  bool
	p      []api.Tree
	known  []place // functions to which a call can refer
	at     place
	around []variable
}

// place is a function of a program.
type place struct{ module, def int }

// variable is a binder with its type as a text.
type variable struct{ name, of string }

func newGrower(seed int64, wrong int) *grower {
	return &grower{Rand: rand.New(rand.NewSource(seed)), wrong: wrong}
}

func (g *grower) one(l ...string) string { return l[g.Intn(len(l))] }

func (g *grower) slip() bool { return g.Intn(100) < g.wrong }

// anyType is a type without names, as a text.
func (g *grower) anyType() string {
	return g.one("Int", "Int", "Text", "Bool", "[Int]", "[[Text]]")
}

// program is a random program of so many modules with so many definitions.
func (g *grower) program(modules, defs int) []api.Tree {
	g.p = nil
	for m := range modules {
		x := node(api.Module, string(rune('A'+m)))
		if g.slip() {
			x.Text = "A"
		}
		for d := range defs {
			x.Kids = append(x.Kids, g.definition(d))
		}
		g.p = append(g.p, x)
	}
	g.known = nil
	for m, t := range g.p {
		for d, f := range t.Kids {
			if n, i, _ := link.Lookup(g.p, 0, t.Text+"."+f.Text); f.Kind == api.Func && n == m && i == d {
				g.known = append(g.known, place{m, d})
			}
		}
	}
	for m, t := range g.p {
		for d, f := range t.Kids {
			if f.Kind == api.Func {
				g.at, g.around = place{m, d}, binders(f)
				f.Kids[len(f.Kids)-1] = g.expression(written(f.Kids[len(f.Kids)-2]), 4)
			}
		}
	}
	return g.p
}

// definition is one without a body.
func (g *grower) definition(d int) api.Tree {
	if g.Intn(8) == 0 {
		return node(api.Alias, fmt.Sprint("T", d), basic(g.anyType()))
	}
	if g.slip() {
		d = 0
	}
	f := node(api.Func, fmt.Sprint("f", d))
	for range g.Intn(4) {
		f.Kids = append(f.Kids, node(api.Param, g.name(), basic(g.anyType())))
	}
	return node(api.Func, f.Text, append(f.Kids, basic(g.anyType()), node(api.Hole, ""))...)
}

func (g *grower) name() string { return g.one("x", "y", "z") }

// basic is the tree of the text of a type.
func basic(s string) api.Tree {
	inner, list := strings.CutPrefix(s, "[")
	if list {
		return node(api.TList, "", basic(strings.TrimSuffix(inner, "]")))
	}
	return node(map[string]int{"Int": api.TInt, "Text": api.TText, "Bool": api.TBool}[s], "")
}

// written is the text of such a type.
func written(t api.Tree) string {
	if t.Kind == api.TList {
		return "[" + written(t.Kids[0]) + "]"
	}
	return map[int]string{api.TInt: "Int", api.TText: "Text", api.TBool: "Bool"}[t.Kind]
}

// binders are the parameters of a function, the innermost one last.
func binders(f api.Tree) []variable {
	var l []variable
	for _, k := range slices.Backward(f.Kids[:parameters(f)]) {
		l = append(l, variable{k.Text, written(k.Kids[0])})
	}
	return l
}

// datum is a random datum of a type, whose texts have about this size at most.
func (g *grower) datum(of string, size int) api.Datum {
	inner, isList := strings.CutPrefix(of, "[")
	switch {
	case isList:
		l := list()
		for range g.Intn(3) {
			l.L = append(l.L, g.datum(strings.TrimSuffix(inner, "]"), size/4))
		}
		return l
	case of == "Int":
		return num([]int64{0, 1, 2, 3, -1, math.MaxInt64, math.MinInt64, g.Int63()}[g.Intn(8)])
	case of == "Text":
		return str(strings.Repeat(g.one("", "a", "b", "\x00"), []int{1, 2, size / 2, size}[g.Intn(4)]))
	}
	return truth(g.Intn(2) == 0)
}

// arguments are random data for a function, most of them of the right types.
func (g *grower) arguments(f api.Tree) []api.Datum {
	var l []api.Datum
	for _, k := range f.Kids[:parameters(f)] {
		of := written(k.Kids[0])
		if g.slip() {
			of = g.anyType()
		}
		l = append(l, g.datum(of, 3000))
	}
	return l
}

// expression is one of this type, if nothing slips.
func (g *grower) expression(want string, depth int) api.Tree {
	if g.slip() {
		want = g.anyType()
	}
	switch n := g.Intn(12); {
	case g.holes && g.Intn(12) == 0:
		return node(api.Hole, "")
	case g.slip():
		return node(api.Var, g.name())
	case depth == 0 || n < 1:
		return g.leaf(want)
	case n < 4:
		return g.call(want, depth-1)
	case n < 5:
		return node(api.Paren, "", g.expression(want, depth-1))
	case n < 7:
		return node(api.If, "", g.expression("Bool", depth-1), g.expression(want, depth-1), g.expression(want, depth-1))
	case n < 9:
		return g.let(want, depth-1)
	}
	return g.operation(want, depth-1)
}

// leaf is a variable or a literal.
func (g *grower) leaf(want string) api.Tree {
	var names []string
	for _, v := range slices.Backward(g.around) {
		if !slices.Contains(names, v.name) {
			names = append(names, v.name)
			if v.of == want && g.Intn(4) > 0 {
				return node(api.Var, v.name)
			}
		}
	}
	switch inner, list := strings.CutPrefix(want, "["); {
	case list:
		l := node(api.List, "")
		for range 1 + g.Intn(3) {
			l.Kids = append(l.Kids, g.expression(strings.TrimSuffix(inner, "]"), 0))
		}
		return l
	case want == "Int":
		return node(api.Num, g.one("0", "1", "2", "3", "17", "999999999999999"))
	case want == "Text":
		return node(api.Str, g.one(`""`, `"a"`, `"b c"`))
	}
	return node(api.True+g.Intn(2), "")
}

// call is one of a function with this result, or with another one. Most calls
// are of functions that come earlier, so that many runs come to an end.
func (g *grower) call(want string, depth int) api.Tree {
	var l []place
	for _, c := range g.known {
		f := g.p[c.module].Kids[c.def]
		earlier := c.module < g.at.module || c.module == g.at.module && c.def < g.at.def
		if (earlier || g.Intn(6) == 0) && (written(f.Kids[len(f.Kids)-2]) == want || g.slip()) {
			l = append(l, c)
		}
	}
	if len(l) == 0 || g.slip() {
		return g.leaf(want)
	}
	c := l[g.Intn(len(l))]
	f := g.p[c.module].Kids[c.def]
	x := node(api.Call, g.p[c.module].Text+"."+f.Text)
	if c.module == g.at.module && g.Intn(2) == 0 {
		x.Text = f.Text
	}
	if g.slip() {
		x.Text = g.one("f1", "B.f0", "f2", "C.f3", "D.f")
	}
	for _, k := range f.Kids[:parameters(f)] {
		if !g.slip() {
			x.Kids = append(x.Kids, node(api.Arg, "", g.expression(written(k.Kids[0]), depth)))
		}
	}
	if g.slip() {
		x.Kids = append(x.Kids, node(api.Arg, "", g.expression("Int", depth)))
	}
	return x
}

func (g *grower) let(want string, depth int) api.Tree {
	name, of := g.name(), g.anyType()
	value := g.expression(of, depth)
	around := g.around
	g.around = append(slices.Clone(around), variable{name, of})
	body := g.expression(want, depth)
	g.around = around
	return node(api.Let, name, value, body)
}

func (g *grower) operation(want string, depth int) api.Tree {
	word, left := g.one("+", "-", "*"), want
	switch want {
	case "Int":
	case "Text":
		word = "+"
	case "Bool":
		word, left = g.one("<", "=="), "Int"
		if word == "==" {
			left = g.anyType()
		}
	default:
		return g.leaf(want)
	}
	a, b := g.expression(left, depth), g.expression(left, depth)
	if a.Kind == api.If || a.Kind == api.Let {
		a = node(api.Paren, "", a)
	}
	if b.Kind == api.If || b.Kind == api.Let || b.Kind == api.Bin {
		b = node(api.Paren, "", b)
	}
	return node(api.Bin, word, a, b)
}

// runs calls visit for some runs of each function of a program.
func (g *grower) runs(p []api.Tree, visit func(module, def int, args []api.Datum)) {
	for m, t := range p {
		for d, f := range t.Kids {
			if f.Kind == api.Func {
				for range 2 {
					visit(m, d, g.arguments(f))
				}
			}
		}
	}
}

// randomFuel is enough for most runs that come to an end.
const randomFuel = 250

func TestRandomPrograms(t *testing.T) {
	count := map[api.Errno]int{}
	long := 0
	for i := range 100 {
		g := newGrower(int64(i), []int{0, 2, 5, 15}[i%4])
		g.holes = i%3 == 0
		p := g.program(1+i%3, 1+g.Intn(6))
		g.runs(p, func(module, def int, args []api.Datum) {
			o := checkRun(t, p, module, def, args, randomFuel)
			count[o.e]++
			if o.e == api.OK && o.used > 15 {
				long++
			}
		})
	}
	for _, e := range []api.Errno{api.OK, api.ErrNone, api.ErrType, api.ErrFuel, api.ErrArg, api.ErrLong} {
		if count[e] < 4 {
			t.Errorf("only %d runs have the error %d", count[e], e)
		}
		delete(count, e)
	}
	if long < 60 || len(count) > 0 {
		t.Errorf("only %d runs took long; other errors: %v", long, count)
	}
}

// TestRightPrograms has programs without type errors and holes.
func TestRightPrograms(t *testing.T) {
	count := map[api.Errno]int{}
	for i := range 80 {
		g := newGrower(int64(i), 0)
		p := g.program(3, 5)
		if l := typing.Errors(p); len(l) > 0 {
			t.Fatalf("there are type errors in %q: %v", sources(p), l)
		}
		g.runs(p, func(module, def int, args []api.Datum) {
			d, _, e := eval.Run(p, module, def, args, 2000)
			if e != api.OK && e != api.ErrFuel && e != api.ErrLong {
				t.Fatalf("Consequences: in %q without type errors the run of %d %d of %s has the error %d", sources(p), module, def, show(list(args...)), e)
			}
			f := p[module].Kids[def]
			if e == api.OK && !hasType(d, f.Kids[len(f.Kids)-2]) {
				t.Fatalf("P9.2: in %q the run of %d %d of %s is %s", sources(p), module, def, show(list(args...)), show(d))
			}
			count[e]++
		})
	}
	if count[api.OK] < 500 || count[api.ErrFuel] < 20 {
		t.Errorf("the numbers of errors are %v", count)
	}
}

// hasType reports whether a datum is a valid one of a type without names.
func hasType(d api.Datum, t api.Tree) bool {
	if t.Kind == api.TList {
		return d.Kind == api.DList && eval.Valid(d) && !slices.ContainsFunc(d.L, func(x api.Datum) bool { return !hasType(x, t.Kids[0]) })
	}
	return eval.Valid(d) && d.Kind == map[int]int{api.TInt: api.DInt, api.TText: api.DText, api.TBool: api.DBool}[t.Kind]
}

// TestLeadsDoNotMatter has leads that are too few, too many or no trivia.
func TestLeadsDoNotMatter(t *testing.T) {
	for i := range 30 {
		g := newGrower(int64(i), 3)
		var spoil func(p []api.Tree)
		spoil = func(p []api.Tree) {
			for i := range p {
				for range g.Intn(4) {
					p[i].Leads = append(p[i].Leads, g.one("", " ", "#\n", "#", "T", "\x00"))
				}
				spoil(p[i].Kids)
			}
		}
		p := g.program(2, 3)
		q := roomy(p)
		spoil(q)
		g.runs(p, func(module, def int, args []api.Datum) {
			checkAlikeRuns(t, p, q, place{module, def}, place{module, def}, args)
		})
	}
}

// checkAlikeRuns checks that a run is the same in two programs.
func checkAlikeRuns(t *testing.T, p, q []api.Tree, at, now place, args []api.Datum) {
	t.Helper()
	for _, fuel := range []int{3, 10, randomFuel} {
		var a, b outcome
		a.value, a.used, a.e = eval.Run(p, at.module, at.def, args, fuel)
		b.value, b.used, b.e = eval.Run(q, now.module, now.def, args, fuel)
		if a.shown() != b.shown() {
			t.Fatalf("Consequences: in %q the run of %v of %s is %s, but in %q that of %v is %s", sources(p), at, show(list(args...)), a.shown(), sources(q), now, b.shown())
		}
	}
}

// TestNamesDoNotMatter gives each binder and each definition a name of its own,
// with the variables and calls that refer to it.
func TestNamesDoNotMatter(t *testing.T) {
	renamed := 0
	for i := range 30 {
		g := newGrower(int64(i), 3)
		p := g.program(3, 4)
		q := slices.Clone(p)
		for m := range p {
			q[m].Kids = slices.Clone(p[m].Kids)
			for d, f := range q[m].Kids {
				q[m].Kids[d] = withCalls(p, m, fresh(f))
				q[m].Kids[d].Text = fmt.Sprintf("%c%d", "gU"[f.Kind-api.Func], d)
			}
			q[m].Text = fmt.Sprint("M", m)
			renamed += len(q[m].Kids)
		}
		g.runs(p, func(module, def int, args []api.Datum) {
			checkAlikeRuns(t, p, q, place{module, def}, place{module, def}, args)
		})
	}
	if renamed < 250 {
		t.Errorf("only %d definitions have another name", renamed)
	}
}

// fresh returns a definition in which all binders have different names.
func fresh(f api.Tree) api.Tree {
	names := map[string]string{}
	variables := scope.Variables(f)
	for _, at := range tree.Paths(f) {
		x, _ := tree.At(f, at)
		if x.Kind == api.Param || x.Kind == api.Let {
			names[fmt.Sprint(at)] = fmt.Sprint("v", len(names))
		}
	}
	for _, at := range tree.Paths(f) {
		x, _ := tree.At(f, at)
		name := names[fmt.Sprint(at)]
		if i := slices.IndexFunc(variables, func(v api.Variable) bool { return slices.Equal(v.Path, at) && !v.Free }); i >= 0 {
			name = names[fmt.Sprint(variables[i].Binder)]
		}
		if x.Kind == api.Var && name == "" {
			name = "free"
		}
		if name != "" {
			x.Text = name
			f, _ = tree.Replace(f, at, x)
		}
	}
	return f
}

// withCalls returns a definition of a module of p in which calls have the names
// that TestNamesDoNotMatter gives.
func withCalls(p []api.Tree, module int, f api.Tree) api.Tree {
	f.Kids = slices.Clone(f.Kids)
	for i, k := range f.Kids {
		f.Kids[i] = withCalls(p, module, k)
	}
	if f.Kind == api.Call {
		m, d, found := link.Lookup(p, module, f.Text)
		f.Text = fmt.Sprintf("M%d.g%d", m, d)
		if !found {
			f.Text = "none"
		}
	}
	return f
}

// TestOrderDoesNotMatter has the definitions in another order, with others that
// are not called among them.
func TestOrderDoesNotMatter(t *testing.T) {
	moved := 0
	for i := range 30 {
		g := newGrower(int64(i), 0)
		g.holes = i%2 == 0
		p := g.program(3, 4)
		q := slices.Clone(p)
		for m := range p {
			kids := append(slices.Clone(p[m].Kids), node(api.Func, "unused", basic("Int"), node(api.Call, "unused")), node(api.Alias, "Unused", basic("Int")))
			g.Shuffle(len(kids), func(i, j int) { kids[i], kids[j] = kids[j], kids[i] })
			q[m].Kids = kids
		}
		g.runs(p, func(module, def int, args []api.Datum) {
			name := p[module].Kids[def].Text
			now := slices.IndexFunc(q[module].Kids, func(f api.Tree) bool { return f.Text == name })
			if now != def {
				moved++
			}
			checkAlikeRuns(t, p, q, place{module, def}, place{module, now}, args)
		})
	}
	if moved < 250 {
		t.Errorf("only %d functions were moved", moved)
	}
}

// TestTypesDoNotMatter has other types at all parameters and results.
func TestTypesDoNotMatter(t *testing.T) {
	for i := range 30 {
		g := newGrower(int64(i), 5)
		p := g.program(3, 4)
		q := slices.Clone(p)
		for m := range p {
			for d, f := range p[m].Kids {
				for _, at := range tree.Paths(f) {
					if x, _ := tree.At(f, at); api.TInt <= x.Kind && x.Kind <= api.TName {
						f, _ = tree.Replace(f, at[:len(at):len(at)], node(api.TName, "None"))
					}
				}
				q[m], _ = tree.Replace(q[m], []int{d}, f)
			}
		}
		if _, e := types.Expand(q, 0, node(api.TName, "None")); e == api.OK {
			t.Fatal("the type is known")
		}
		g.runs(p, func(module, def int, args []api.Datum) {
			checkAlikeRuns(t, p, q, place{module, def}, place{module, def}, args)
		})
	}
}

// TestRandomData has data that are valid or not, and that differ in little.
func TestRandomData(t *testing.T) {
	validOnes, alike := 0, 0
	for i := range 2000 {
		g := newGrower(int64(i), 0)
		a := g.anyDatum(3)
		b := g.altered(a)
		checkDatum(t, a)
		checkAlike(t, a, b)
		if eval.Valid(a) {
			validOnes++
		}
		if eval.Same(a, b) {
			alike++
		}
	}
	if validOnes < 300 || validOnes > 1900 || alike < 100 || alike > 1900 {
		t.Errorf("%d data are valid, and %d are alike", validOnes, alike)
	}
}

// anyDatum is a datum in which fields that its kind does not use may be set.
func (g *grower) anyDatum(depth int) api.Datum {
	d := api.Datum{Kind: 1 + g.Intn(4)}
	used := d.Kind
	if g.Intn(8) == 0 {
		used = 1 + g.Intn(5)
	}
	switch {
	case used == api.DInt:
		d.N = g.Int63n(9) - 4
	case used == api.DText:
		d.S = g.one("", "a", "ab", strings.Repeat("x", 1500))
	case used == api.DBool:
		d.N = g.Int63n(2)
	case depth > 0:
		for range g.Intn(4) {
			d.L = append(d.L, g.anyDatum(depth-1))
		}
	}
	return d
}

// altered is a copy of a datum that may differ in one field.
func (g *grower) altered(d api.Datum) api.Datum {
	d.L = slices.Clone(d.L)
	switch n := g.Intn(10); {
	case n < 5 && len(d.L) > 0:
		i := g.Intn(len(d.L))
		d.L[i] = g.altered(d.L[i])
	case n == 5 && len(d.L) > 0:
		d.L = d.L[1:]
	case n == 6:
		d.L = append(slices.Clip(d.L), d)
	case n == 7:
		d.N++
	case n == 8:
		d.S += "a"
	case n == 9:
		d.Kind++
	}
	return d
}

// TestDamagedPrograms puts what cannot stand there in place of each node.
func TestDamagedPrograms(t *testing.T) {
	for i := range 3 {
		p := newGrower(int64(i), 20).program(2, 2)
		for m := range p {
			for _, at := range tree.Paths(p[m]) {
				for _, u := range []api.Tree{{}, node(api.Module, "m"), node(api.Call, "F"), node(api.TName, "t"), node(api.Paren+1, "")} {
					l := slices.Clone(p)
					l[m], _ = tree.Replace(p[m], at, u)
					if isProgram(l) {
						t.Fatalf("%v is a program", l)
					}
					for n := range p {
						checkShown(t, l, n, 0, nil, 9, "arg used 0")
						checkShown(t, l, n, 1, data(num(1)), 9, "arg used 0")
					}
				}
			}
		}
	}
}

// TestAnyOrder has the modules of a program in other orders, and some of them.
func TestAnyOrder(t *testing.T) {
	for i := range 20 {
		g := newGrower(int64(i), 5)
		p := g.program(4, 2)
		g.Shuffle(len(p), func(i, j int) { p[i], p[j] = p[j], p[i] })
		for m := range p {
			for _, q := range [][]api.Tree{p[m:], p[:m]} {
				g.runs(q, func(module, def int, args []api.Datum) {
					checkRun(t, q, module, def, args, randomFuel)
				})
			}
		}
	}
}
