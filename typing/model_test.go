package typing_test

import (
	"fmt"
	"slices"
	"strings"
	"testing"

	"semvcs/api"
	"semvcs/link"
	"semvcs/scope"
	"semvcs/syntax"
	"semvcs/tree"
	"semvcs/types"
	"semvcs/typing"
)

// isProgram reports whether a list is a program, as chapter 6 defines it.
func isProgram(p []api.Tree) bool {
	return !slices.ContainsFunc(p, func(m api.Tree) bool { return m.Kind != api.Module || !syntax.Shaped(m) })
}

// text is a type without names as a text.
func text(t api.Tree) string {
	if t.Kind == api.TList {
		return "[" + text(t.Kids[0]) + "]"
	}
	return map[int]string{api.TInt: "Int", api.TText: "Text", api.TBool: "Bool"}[t.Kind]
}

// basic is the tree of such a text, without leads.
func basic(s string) api.Tree {
	inner, list := strings.CutPrefix(s, "[")
	if list {
		return node(api.TList, "", basic(strings.TrimSuffix(inner, "]")))
	}
	return node(map[string]int{"Int": api.TInt, "Text": api.TText, "Bool": api.TBool}[s], "")
}

// isExpression reports whether a node is an expression.
func isExpression(t api.Tree) bool {
	return slices.Contains([]int{api.Num, api.Str, api.Var, api.True, api.False, api.Hole, api.Call, api.List, api.If, api.Let, api.Bin, api.Paren}, t.Kind)
}

// judge says of each single node of a program what the chapter says of it. It
// knows types as texts; the empty one is the unknown type.
type judge struct {
	p     []api.Tree
	known map[string]string
}

func newJudge(p []api.Tree) *judge { return &judge{p, map[string]string{}} }

func (j *judge) at(x api.Place) api.Tree {
	t, ok := tree.At(j.p[x.Module], x.Path)
	if !ok {
		panic(fmt.Sprint("no node at ", x))
	}
	return t
}

// below is the place of a kid.
func below(x api.Place, path ...int) api.Place {
	return api.Place{Module: x.Module, Path: slices.Concat(x.Path, path)}
}

// declared is what a type in a module is.
func (j *judge) declared(module int, t api.Tree) string {
	x, e := types.Expand(j.p, module, t)
	if e != api.OK {
		return ""
	}
	return text(x)
}

// callee is the function that a call at a place refers to, and its module.
func (j *judge) callee(x api.Place) (f api.Tree, module int, found bool) {
	m, d, found := link.Lookup(j.p, x.Module, j.at(x).Text)
	if !found {
		return api.Tree{}, 0, false
	}
	return j.p[m].Kids[d], m, true
}

// typeOf is the type of the expression at a place.
func (j *judge) typeOf(x api.Place) string {
	key := fmt.Sprint(x)
	s, ok := j.known[key]
	if !ok {
		s = j.typed(x)
		j.known[key] = s
	}
	return s
}

func (j *judge) typed(x api.Place) string {
	t := j.at(x)
	switch t.Kind {
	case api.Num:
		return "Int"
	case api.Str:
		return "Text"
	case api.True, api.False:
		return "Bool"
	case api.Var:
		return j.variable(x)
	case api.Call:
		if f, m, found := j.callee(x); found {
			return j.declared(m, f.Kids[len(f.Kids)-2])
		}
	case api.List:
		if first := j.item(x); first != "" {
			return "[" + first + "]"
		}
	case api.If:
		if s := j.typeOf(below(x, 1)); s != "" {
			return s
		}
		return j.typeOf(below(x, 2))
	case api.Let:
		return j.typeOf(below(x, 1))
	case api.Paren:
		return j.typeOf(below(x, 0))
	case api.Bin:
		return j.operation(x)
	}
	return ""
}

// variable is the type of the Var at a place.
func (j *judge) variable(x api.Place) string {
	f := api.Place{Module: x.Module, Path: x.Path[:1]}
	b, found := scope.Binder(j.at(f), x.Path[1:], j.at(x).Text)
	if !found {
		return ""
	}
	at := below(f, b...)
	if t := j.at(at); t.Kind == api.Param {
		return j.declared(x.Module, t.Kids[0])
	}
	return j.typeOf(below(at, 0))
}

// item is the first known type of an item of the List at a place.
func (j *judge) item(x api.Place) string {
	for i := range j.at(x).Kids {
		if s := j.typeOf(below(x, i)); s != "" {
			return s
		}
	}
	return ""
}

func (j *judge) operation(x api.Place) string {
	switch j.at(x).Text {
	case "-", "*":
		return "Int"
	case "<", "==":
		return "Bool"
	}
	for i := range 2 {
		if s := j.typeOf(below(x, i)); s == "Int" || s == "Text" {
			return s
		}
	}
	return ""
}

func differ(a, b string) bool { return a != "" && b != "" && a != b }

// has reports whether there is an error of this kind at a place.
func (j *judge) has(x api.Place, kind int) bool {
	t := j.at(x)
	switch {
	case kind == api.FaultFree && t.Kind == api.Var:
		_, found := scope.Binder(j.p[x.Module].Kids[x.Path[0]], x.Path[1:], t.Text)
		return !found
	case kind == api.FaultFree && (t.Kind == api.Call || t.Kind == api.TName):
		_, _, found := link.Lookup(j.p, x.Module, t.Text)
		return !found
	case kind == api.FaultCount && t.Kind == api.Call:
		f, _, found := j.callee(x)
		return found && len(f.Kids)-2 != len(t.Kids)
	case kind == api.FaultCycle && t.Kind == api.Alias:
		return types.Circular(j.p, x.Module, x.Path[0])
	case kind == api.FaultType && isExpression(t):
		return j.wrong(x)
	case kind == api.FaultUnlike && isExpression(t):
		return j.unlike(x)
	}
	return false
}

// wrong reports whether the expression at a place has another type than is
// required there.
func (j *judge) wrong(x api.Place) bool {
	last := len(x.Path) - 1
	up, i := api.Place{Module: x.Module, Path: x.Path[:last]}, x.Path[last]
	t, own := j.at(up), j.typeOf(x)
	switch {
	case t.Kind == api.Func:
		return differ(own, j.declared(x.Module, t.Kids[i-1]))
	case t.Kind == api.Arg:
		f, m, found := j.callee(api.Place{Module: x.Module, Path: x.Path[:last-1]})
		n := x.Path[last-1]
		return found && n < len(f.Kids)-2 && differ(own, j.declared(m, f.Kids[n].Kids[0]))
	case t.Kind == api.If && i == 0:
		return differ(own, "Bool")
	case t.Kind == api.Bin && t.Text == "+":
		return differ(own, "Int") && differ(own, "Text")
	case t.Kind == api.Bin && t.Text != "==":
		return differ(own, "Int")
	}
	return false
}

// unlike reports whether the expression at a place has another type than one
// beside it.
func (j *judge) unlike(x api.Place) bool {
	last := len(x.Path) - 1
	up, i := api.Place{Module: x.Module, Path: x.Path[:last]}, x.Path[last]
	t, own := j.at(up), j.typeOf(x)
	switch {
	case t.Kind == api.List:
		return differ(own, j.item(up))
	case t.Kind == api.If && i == 2:
		return differ(own, j.typeOf(below(up, 1)))
	case t.Kind == api.Bin && i == 1 && t.Text == "==":
		return differ(own, j.typeOf(below(up, 0)))
	case t.Kind == api.Bin && i == 1 && t.Text == "+":
		return !j.wrong(below(up, 0)) && !j.wrong(x) && differ(own, j.typeOf(below(up, 0)))
	}
	return false
}

// errors are all errors of the program.
func (j *judge) errors() []api.TypeError {
	var l []api.TypeError
	for m, t := range j.p {
		for _, path := range tree.Paths(t) {
			for kind := range 10 {
				if x := (api.Place{Module: m, Path: path}); j.has(x, kind) {
					l = append(l, api.TypeError{At: x, Kind: kind})
				}
			}
		}
	}
	return l
}

// show is a list of errors as a text.
func show(l []api.TypeError) string {
	var words []string
	for _, x := range l {
		words = append(words, showError(x))
	}
	return strings.Join(words, " ")
}

// showError is an error as a text: its kind, its module and its path.
func showError(x api.TypeError) string {
	kind := map[int]string{api.FaultFree: "free", api.FaultCount: "count", api.FaultType: "type", api.FaultCycle: "cycle", api.FaultUnlike: "unlike"}[x.Kind]
	if kind == "" {
		kind = fmt.Sprint("kind", x.Kind)
	}
	return kind + fmt.Sprintf("@%d:", x.At.Module) + strings.Trim(strings.ReplaceAll(fmt.Sprint(x.At.Path), " ", "."), "[]")
}

// checkProgram compares what is told of a program with what the judge says.
func checkProgram(t *testing.T, p []api.Tree) {
	t.Helper()
	if !isProgram(p) {
		t.Fatalf("%v is not a program", p)
	}
	before := wholes(p)
	j := newJudge(p)
	if got, want := show(typing.Errors(p)), show(j.errors()); got != want {
		t.Fatalf("P8.1: Errors of %v are %s, not %s", sources(p), got, want)
	}
	for m, module := range p {
		for _, path := range tree.Paths(module) {
			x := api.Place{Module: m, Path: path}
			want := "arg"
			if isExpression(j.at(x)) {
				want = j.typeOf(x)
			}
			checkOf(t, p, x, want)
			checkOf(t, p, below(x, -1), "arg")
			checkOf(t, p, below(x, len(j.at(x).Kids)), "arg")
		}
	}
	for _, m := range []int{-1, len(p), 1 << 40, -1 << 40} {
		checkOf(t, p, api.Place{Module: m}, "arg")
		checkOf(t, p, api.Place{Module: m, Path: []int{0, 1}}, "arg")
	}
	if !slices.EqualFunc(wholes(p), before, tree.Same) {
		t.Fatalf("R2: %v is %v now", before, p)
	}
}

// checkOf checks the type of what is at a place: the text of a type, an empty
// one for the unknown type, or "arg" for a place that is not right.
func checkOf(t *testing.T, p []api.Tree, x api.Place, want string) {
	t.Helper()
	before := slices.Clone(x.Path[:cap(x.Path)])
	got, e := typing.Of(p, x)
	if !slices.Equal(before, x.Path[:cap(x.Path)]) {
		t.Fatalf("R2: the path %v is %v now", before, x.Path)
	}
	switch want {
	case "arg", "":
		err := api.ErrType
		if want == "arg" {
			err = api.ErrArg
		}
		if e != err || !tree.Same(got, api.Tree{}) {
			t.Fatalf("P8.2: in %v Of %v is %v, %d, not %d", sources(p), x, got, e, err)
		}
	default:
		if e != api.OK || !tree.Same(got, basic(want)) {
			t.Fatalf("P8.2: in %v Of %v is %v, %d, not %s", sources(p), x, got, e, want)
		}
	}
}

// checkNothing checks what is told of a list that is no program.
func checkNothing(t *testing.T, p []api.Tree) {
	t.Helper()
	if isProgram(p) {
		t.Fatalf("%v is a program", p)
	}
	if l := typing.Errors(p); len(l) != 0 {
		t.Fatalf("P8.1: Errors(%v) are %v", p, l)
	}
	for m := range p {
		for _, path := range tree.Paths(p[m]) {
			checkOf(t, p, api.Place{Module: m, Path: path}, "arg")
		}
	}
	checkOf(t, p, api.Place{Module: len(p)}, "arg")
}

// sources are the texts of modules.
func sources(p []api.Tree) []string {
	var l []string
	for _, m := range p {
		l = append(l, syntax.Print(withLeads(m)))
	}
	return l
}

// withLeads returns a tree with one blank as each lead.
func withLeads(x api.Tree) api.Tree {
	if n := syntax.Leads(x.Kind, len(x.Kids)); n >= 0 {
		x.Leads = slices.Repeat([]string{" "}, n)
	}
	x.Kids = slices.Clone(x.Kids)
	for i, k := range x.Kids {
		x.Kids[i] = withLeads(k)
	}
	return x
}

// whole returns a copy of a tree with what lies in spare capacity, and wholes
// one of a list of trees.
func whole(x api.Tree) api.Tree {
	x.Leads = slices.Clone(x.Leads[:cap(x.Leads)])
	x.Kids = wholes(x.Kids)
	return x
}

func wholes(p []api.Tree) []api.Tree {
	l := slices.Clone(p[:cap(p)])
	for i, t := range l {
		l[i] = whole(t)
	}
	return l
}

// roomy returns trees equal to these, with spare capacity that is not zero in
// all slices.
func roomy(p []api.Tree) []api.Tree {
	l := []api.Tree{}
	for _, x := range p {
		leads := append([]string{}, x.Leads...)
		x.Leads = append(leads, "spare", "spare")[:len(leads)]
		x.Kids = roomy(x.Kids)
		l = append(l, x)
	}
	return append(l, node(api.Alias, "T"), node(api.Var, "x"))[:len(l)]
}
