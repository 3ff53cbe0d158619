package typing_test

import (
	"fmt"
	"slices"
	"strconv"
	"strings"
	"testing"
	"unsafe"

	"semvcs/api"
	"semvcs/syntax"
	"semvcs/tree"
	"semvcs/typing"
)

// repeated is a tree that is built in so many steps.
func repeated(steps int, x api.Tree, step func(x api.Tree) api.Tree) api.Tree {
	for range steps {
		x = step(x)
	}
	return x
}

// listed is a tree in so many lists of this kind.
func listed(lists, kind int, x api.Tree) api.Tree {
	return repeated(lists, x, func(x api.Tree) api.Tree { return node(kind, "", x) })
}

// defined is a program of a function with this body.
func defined(result, body api.Tree) []api.Tree {
	return []api.Tree{node(api.Module, "M", node(api.Func, "f", node(api.Param, "x", node(api.TInt, "")), result, body))}
}

// TestProgramAtLimits has as many files, definitions and parameters as a valid
// program can have, each function with an error of a call of the next one.
func TestProgramAtLimits(t *testing.T) {
	var sources, want []string
	for m := range api.MaxFiles {
		var s strings.Builder
		fmt.Fprintf(&s, "module M%d type T = Int", m)
		for d := range api.MaxDefs - 1 {
			fmt.Fprintf(&s, " def f%d(%s):Int=", d, strings.Repeat("x:T,", api.MaxParams-1)+"x:T")
			fmt.Fprintf(&s, "M%d.f%d(%s?)", (m+1)%api.MaxFiles, (d+1)%(api.MaxDefs-1), strings.Repeat(`x,`, api.MaxParams-2)+`"",`)
			want = append(want, fmt.Sprintf("type@%d:%d.9.%d.0", m, d+1, api.MaxParams-2))
		}
		sources = append(sources, s.String())
	}
	p := program(t, sources...)
	for _, m := range p {
		if !syntax.Valid(m) || len(m.Kids) != api.MaxDefs {
			t.Fatalf("the program is not valid: %d definitions", len(m.Kids))
		}
	}
	if got := show(typing.Errors(p)); got != strings.Join(want, " ") {
		t.Errorf("P8.1: Errors are %s", got)
	}
	for m := range p {
		checkOf(t, p, api.Place{Module: m, Path: []int{api.MaxDefs - 1, api.MaxParams + 1}}, "Int")
	}
}

// TestLongLists has as many items as a valid list can have, and more.
func TestLongLists(t *testing.T) {
	for _, items := range []int{api.MaxItems, api.MaxItems + 1, 5000} {
		l := node(api.List, "")
		var want []string
		for i := range items {
			switch {
			case i == 0:
				l.Kids = append(l.Kids, node(api.Hole, ""))
			case i%3 == 0:
				l.Kids = append(l.Kids, node(api.True, ""))
				want = append(want, fmt.Sprintf("unlike@0:0.2.%d", i))
			default:
				l.Kids = append(l.Kids, node(api.Num, "1"))
			}
		}
		p := defined(listed(1, api.TList, node(api.TInt, "")), l)
		if got := show(typing.Errors(p)); got != strings.Join(want, " ") {
			t.Errorf("P8.1: Errors of %d items are %s", items, got)
		}
		checkOf(t, p, api.Place{Path: []int{0, 2}}, "[Int]")
	}
}

// TestManyParameters has more of them than a valid function can have, some of
// one name, and calls with more and with fewer arguments.
func TestManyParameters(t *testing.T) {
	const params = 1000
	f := node(api.Func, "f")
	for i := range params {
		f.Kids = append(f.Kids, node(api.Param, "x"+strconv.Itoa(i%600), node(api.TInt+i%2, "")))
	}
	call := func(args int) api.Tree {
		x := node(api.Call, "M.f")
		for i := range args {
			x.Kids = append(x.Kids, node(api.Arg, "", node(api.Var, "x"+strconv.Itoa(i%602))))
		}
		return x
	}
	f.Kids = append(f.Kids, node(api.TBool, ""), node(api.List, "", call(params-1), call(params), call(params+1)))
	p := []api.Tree{node(api.Module, "M", f)}
	checkOf(t, p, api.Place{Path: []int{0, params + 1}}, "[Bool]")
	want := []string{fmt.Sprintf("type@0:0.%d", params+1)}
	for i, args := range []int{params - 1, params, params + 1} {
		if args != params {
			want = append(want, fmt.Sprintf("count@0:0.%d.%d", params+1, i))
		}
		for k := range args {
			if k%602 >= 600 {
				want = append(want, fmt.Sprintf("free@0:0.%d.%d.%d.0", params+1, i, k))
			}
		}
	}
	if got := show(typing.Errors(p)); got != strings.Join(want, " ") {
		t.Errorf("P8.1: Errors are %s, not %s", got, want)
	}
}

// deepExpression is an expression of many levels, with its type.
type deepExpression struct {
	name   string
	x      api.Tree
	want   flat
	errors string // those at its root
}

// flat is a type that is too deep for recursion: a type in so many lists.
type flat struct {
	lists, kind int
}

func deepExpressions() []deepExpression {
	const levels = 1<<16 - 3
	one, text, hole := node(api.Num, "1"), node(api.Str, `"a"`), node(api.Hole, "")
	f := node(api.Call, "f", node(api.Arg, "", one))
	sum := func(x api.Tree) api.Tree { return node(api.Bin, "+", x, node(api.Var, "x")) }
	let := func(x api.Tree) api.Tree { return node(api.Let, "y", one, x) }
	var l []deepExpression
	add := func(name string, x api.Tree, lists, kind int, errors string) {
		l = append(l, deepExpression{name, x, flat{lists, kind}, errors})
	}
	add("parens", listed(levels, api.Paren, one), 0, api.TInt, "")
	add("parens of a text", listed(levels, api.Paren, text), 0, api.TText, "type@0:0.2")
	add("parens of a hole", listed(levels, api.Paren, hole), 0, 0, "")
	add("lists", listed(levels, api.List, one), levels, api.TInt, "type@0:0.2")
	add("lists of a hole", listed(levels, api.List, hole), 0, 0, "")
	add("sums", repeated(levels, one, sum), 0, api.TInt, "")
	add("sums of holes", repeated(levels, hole, sum), 0, api.TInt, "")
	add("equations", repeated(levels, node(api.True, ""), func(x api.Tree) api.Tree { return node(api.Bin, "==", x, node(api.False, "")) }), 0, api.TBool, "type@0:0.2")
	add("calls", repeated(levels/2, f, func(x api.Tree) api.Tree { return node(api.Call, "f", node(api.Arg, "", x)) }), 0, api.TInt, "")
	add("lets", repeated(levels, node(api.Var, "y"), let), 0, api.TInt, "")
	add("lets around others", repeated(levels, node(api.Var, "x"), let), 0, api.TInt, "")
	add("values of lets", repeated(levels, one, func(x api.Tree) api.Tree { return node(api.Let, "y", x, node(api.Var, "y")) }), 0, api.TInt, "")
	add("branches", repeated(levels, text, func(x api.Tree) api.Tree { return node(api.If, "", node(api.True, ""), hole, x) }), 0, api.TText, "type@0:0.2")
	add("conditions", repeated(levels, node(api.True, ""), func(x api.Tree) api.Tree { return node(api.If, "", x, hole, node(api.True, "")) }), 0, api.TBool, "type@0:0.2")
	return l
}

// TestDeepExpressions has as many levels as rule R10 allows.
func TestDeepExpressions(t *testing.T) {
	for _, d := range deepExpressions() {
		p := defined(node(api.TInt, ""), d.x)
		if got := show(typing.Errors(p)); got != d.errors {
			t.Errorf("P8.1: Errors of %s are %s", d.name, got)
		}
		checkDeep(t, p, api.Place{Path: []int{0, 2}}, d.want)
		at := api.Place{Path: []int{0, 2, len(d.x.Kids) - 1}}
		if d.name == "calls" {
			at.Path = append(at.Path, 0)
		}
		if _, e := typing.Of(p, at); e != api.OK && (e != api.ErrType || d.want.kind != 0) {
			t.Errorf("P8.2: Of the last kid of %s has the error %d", d.name, e)
		}
	}
}

// checkDeep checks the type of an expression, also where it is too deep for
// recursion.
func checkDeep(t *testing.T, p []api.Tree, x api.Place, want flat) {
	t.Helper()
	got, e := typing.Of(p, x)
	if want.kind == 0 {
		if e != api.ErrType || !tree.Same(got, api.Tree{}) {
			t.Errorf("P8.2: Of has the error %d", e)
		}
		return
	}
	lists := 0
	for ; got.Kind == api.TList; lists++ {
		if got.Text != "" || len(got.Leads) != 0 || len(got.Kids) != 1 {
			t.Fatalf("P8.2: in %d lists is %q with %d leads and %d kids", lists, got.Text, len(got.Leads), len(got.Kids))
		}
		got = got.Kids[0]
	}
	if e != api.OK || lists != want.lists || !tree.Same(got, node(want.kind, "")) {
		t.Errorf("P8.2: Of is %d lists of %v, %d, not %v", lists, got, e, want)
	}
}

// TestManyErrorsAtManyLevels has errors whose order is the other way round than
// that in which they are found.
func TestManyErrorsAtManyLevels(t *testing.T) {
	const levels = 3000
	body := repeated(levels, node(api.Num, "1"), func(x api.Tree) api.Tree {
		return node(api.Call, "M.f", node(api.Arg, "", x), node(api.Arg, "", node(api.Var, "y")))
	})
	l := typing.Errors(defined(node(api.TInt, ""), node(api.List, "", body)))
	if len(l) != 1+2*levels {
		t.Fatalf("P8.1: there are %d errors", len(l))
	}
	want := []api.TypeError{{At: api.Place{Path: []int{0, 2}}, Kind: api.FaultType}}
	at := []int{0, 2, 0}
	for range levels {
		want = append(want, api.TypeError{At: api.Place{Path: slices.Clone(at)}, Kind: api.FaultCount})
		at = append(at, 0, 0)
	}
	for n := levels - 1; n >= 0; n-- {
		at = at[:3+2*n]
		want = append(want, api.TypeError{At: api.Place{Path: slices.Concat(at, []int{1, 0})}, Kind: api.FaultFree})
	}
	checkSame(t, l, want)

	body = repeated(levels, node(api.True, ""), func(x api.Tree) api.Tree {
		return node(api.If, "", node(api.Num, "1"), node(api.Num, "1"), node(api.If, "", x, node(api.True, ""), node(api.Hole, "")))
	})
	l, want, at = typing.Errors(defined(node(api.TText, ""), body)), nil, []int{0, 2}
	want = append(want, api.TypeError{At: api.Place{Path: slices.Clone(at)}, Kind: api.FaultType})
	for n := range levels {
		want = append(want, api.TypeError{At: api.Place{Path: slices.Concat(at, []int{0})}, Kind: api.FaultType})
		want = append(want, api.TypeError{At: api.Place{Path: slices.Concat(at, []int{2})}, Kind: api.FaultUnlike})
		at = append(at, 2, 0)
		if n < levels-1 {
			want = append(want, api.TypeError{At: api.Place{Path: slices.Clone(at)}, Kind: api.FaultType})
		}
	}
	checkSame(t, l, want)
}

func checkSame(t *testing.T, l, want []api.TypeError) {
	t.Helper()
	if !slices.EqualFunc(l, want, func(a, b api.TypeError) bool {
		return a.Kind == b.Kind && a.At.Module == b.At.Module && slices.Equal(a.At.Path, b.At.Path)
	}) {
		t.Errorf("P8.1: %d errors are not the %d that there are", len(l), len(want))
	}
}

// TestDeepTypes has types of many levels, which aliases make far deeper.
func TestDeepTypes(t *testing.T) {
	const lists, aliases = 1<<16 - 4, 3
	m := node(api.Module, "M", node(api.Alias, "T0", node(api.TInt, "")))
	for i := range aliases {
		m.Kids = append(m.Kids, node(api.Alias, "T"+strconv.Itoa(i+1), listed(lists, api.TList, node(api.TName, "T"+strconv.Itoa(i)))))
	}
	last := node(api.TName, "T"+strconv.Itoa(aliases))
	f := func(body api.Tree) api.Tree {
		return node(api.Func, "f", node(api.Param, "x", last), node(api.Param, "y", listed(1, api.TList, last)), listed(2, api.TList, last), body)
	}
	m.Kids = append(m.Kids, f(node(api.List, "", node(api.List, "", node(api.Var, "x")), node(api.Var, "y"))), f(node(api.List, "", node(api.Var, "x"))), f(listed(lists, api.List, node(api.Call, "f", node(api.Arg, "", node(api.Var, "x")), node(api.Arg, "", node(api.Var, "x"))))))
	p := []api.Tree{m}
	at := []int{aliases + 3, 3}
	want := fmt.Sprintf("type@0:%d.3 type@0:%d.3 type@0:%d.3%s.1.0", aliases+2, aliases+3, aliases+3, strings.Repeat(".0", lists))
	if got := show(typing.Errors(p)); got != want {
		t.Errorf("P8.1: there are other errors of deep types, %d bytes as text", len(got))
	}
	checkDeep(t, p, api.Place{Path: []int{aliases + 1, 3}}, flat{aliases*lists + 2, api.TInt})
	checkDeep(t, p, api.Place{Path: []int{aliases + 2, 3}}, flat{aliases*lists + 1, api.TInt})
	checkDeep(t, p, api.Place{Path: at}, flat{aliases*lists + 2 + lists, api.TInt})
	checkDeep(t, p, api.Place{Path: append(at, slices.Repeat([]int{0}, lists)...)}, flat{aliases*lists + 2, api.TInt})
}

// TestDeepFreeNames has names that refer to nothing at many levels of types.
func TestDeepFreeNames(t *testing.T) {
	const lists = 1<<16 - 4
	deep := listed(lists, api.TList, node(api.TName, "U"))
	p := []api.Tree{node(api.Module, "M", node(api.Alias, "T", deep), node(api.Func, "f", node(api.Param, "x", deep), deep, node(api.Num, "1")))}
	down := strings.Repeat(".0", lists)
	if got := show(typing.Errors(p)); got != "free@0:0.0"+down+" free@0:1.0.0"+down+" free@0:1.1"+down {
		t.Errorf("P8.1: there are other errors of deep types, %d bytes as text", len(got))
	}
	checkOf(t, p, api.Place{Path: []int{1, 2}}, "Int")
}

// TestManyDefinitions has more modules, definitions and aliases than a valid
// program can have.
func TestManyDefinitions(t *testing.T) {
	const modules, defs = 12, 120
	var p []api.Tree
	var want []string
	for m := range modules {
		x := node(api.Module, "M"+strconv.Itoa(m), node(api.Alias, "T", listed(1, api.TList, node(api.TName, "M"+strconv.Itoa(m-1)+".T"))))
		if m == 0 {
			x.Kids[0] = node(api.Alias, "T", node(api.TBool, ""))
		}
		for d := range defs {
			f := "M" + strconv.Itoa((m+1)%modules) + ".f" + strconv.Itoa(d)
			call := node(api.Call, f, node(api.Arg, "", node(api.Var, "x")))
			x.Kids = append(x.Kids, node(api.Func, "f"+strconv.Itoa(d), node(api.Param, "x", node(api.TName, "T")), node(api.TName, "T"), call))
			want = append(want, fmt.Sprintf("type@%d:%d.2 type@%d:%d.2.0.0", m, d+1, m, d+1))
		}
		p = append(p, x)
	}
	if got := show(typing.Errors(p)); got != strings.Join(want, " ") {
		t.Errorf("P8.1: Errors are %s", got)
	}
	checkOf(t, p, api.Place{Module: 4, Path: []int{9, 2}}, "[[[[[Bool]]]]]")
}

// span is the memory of a slice, with its spare capacity.
type span struct {
	from, to uintptr
}

// spanOf returns the memory of a slice, if it has any.
func spanOf[T any](l []T) []span {
	if cap(l) == 0 {
		return nil
	}
	from := uintptr(unsafe.Pointer(unsafe.SliceData(l)))
	return []span{{from, from + uintptr(cap(l))*unsafe.Sizeof(*new(T))}}
}

// spans returns the memory of all slices of a tree.
func spans(x api.Tree) []span {
	l := append(spanOf(x.Kids), spanOf(x.Leads)...)
	for _, k := range x.Kids {
		l = append(l, spans(k)...)
	}
	return l
}

// checkApart checks that no slice shares memory with another one, and that those
// in l share none with others.
func checkApart(t *testing.T, l, others []span) {
	t.Helper()
	for i, x := range l {
		for _, y := range slices.Concat(l[i+1:], others) {
			if x.from < y.to && y.from < x.to {
				t.Fatal("R2: results share memory with arguments or with each other")
			}
		}
	}
}

// TestResultsAreNew changes results; neither arguments nor other results, also
// later ones, may change.
func TestResultsAreNew(t *testing.T) {
	p := roomy(program(t, "module A type T = [ [ B.T ] ] def f(x: T, y: U): Text = if x then f([x], z) else g()", "module B type T = [ Int ] def f(): A.T = [[1 + true], [?]]"))
	var given []span
	for _, m := range p {
		given = append(given, spans(m)...)
	}
	x := api.Place{Path: append(make([]int, 0, 9), 1, 3, 1, 0, 0)}
	given = append(given, spanOf(x.Path)...)
	a, b := typing.Errors(p), typing.Errors(p)
	u, _ := typing.Of(p, x)
	v, e := typing.Of(p, x)
	if e != api.OK || len(a) < 5 {
		t.Fatalf("error %d, and %d errors", e, len(a))
	}
	l := slices.Concat(spans(u), spans(v), spanOf(a), spanOf(b))
	for _, y := range slices.Concat(a, b) {
		l = append(l, spanOf(y.At.Path)...)
	}
	checkApart(t, l, given)
	want, wantOf := show(b), whole(v)
	for i := range a {
		a[i].Kind = -1
		for k := range a[i].At.Path {
			a[i].At.Path[k] = -1
		}
	}
	for y := &u; len(y.Kids) > 0; {
		y.Kind, y.Text, y.Leads = api.Hole, "changed", append(y.Leads, "changed")
		y = &y.Kids[0]
	}
	w, _ := typing.Of(p, x)
	if show(b) != want || show(typing.Errors(p)) != want || !tree.Same(v, wantOf) || !tree.Same(w, wantOf) {
		t.Errorf("R2: results have changed with other ones")
	}
	checkProgram(t, p)
}

// TestSharedArguments has one slice at several places of the arguments.
func TestSharedArguments(t *testing.T) {
	kids := append([]api.Tree{}, node(api.TName, "U"), node(api.Call, "f"), node(api.Hole, ""))[:2]
	list := node(api.TList, "", kids[:1]...)
	items := node(api.List, "", kids[1], node(api.List, "", kids[1:2]...), node(api.Num, "1"))
	sum := node(api.Bin, "+", items, node(api.Paren, "", items))
	defs := append([]api.Tree{}, node(api.Alias, "T", kids[:1]...), node(api.Func, "f", kids...), node(api.Alias, "U", list), node(api.Func, "g", list, sum), node(api.Func, "f", list, sum), node(api.Hole, ""))[:5]
	a := node(api.Module, "A", defs...)
	p := append([]api.Tree{}, a, node(api.Module, "B", defs[1:]...), a, node(api.Module, "A", defs[:1]...))[:3]
	checkProgram(t, p)
	checkProgram(t, p[1:2])
	checkProgram(t, p[:4][2:])
}

// TestParallelCalls calls all functions on the same arguments at once: the race
// detector would tell if an argument was written, or anything was kept.
func TestParallelCalls(t *testing.T) {
	p := roomy(program(t, "module A type T = [B.U] def f(x: T, y: T): Int = if x then y else f(z)", "module B type U = [Int]"))
	x := api.Place{Path: append(make([]int, 0, 9), 1, 3, 1)}
	for range 4 {
		t.Run("", func(t *testing.T) {
			t.Parallel()
			for range 20 {
				if got := show(typing.Errors(p)); got != "type@0:1.3 type@0:1.3.0 count@0:1.3.2 unlike@0:1.3.2 free@0:1.3.2.0.0" {
					t.Errorf("P8.1: Errors are %s", got)
				}
				if got, e := typing.Of(p, x); e != api.OK || text(got) != "[[Int]]" {
					t.Errorf("P8.2: Of is %v, %d", got, e)
				}
			}
		})
	}
}

// TestLongNames has words of the greatest length, one of which begins as
// another one does.
func TestLongNames(t *testing.T) {
	up, low := strings.Repeat("T", api.MaxName), strings.Repeat("t", api.MaxName)
	checkErrors(t, "free@0:1.2.0.0.0.0 free@0:1.2.0.0.0.1 free@0:2.0", "module "+up+" type "+up+" = Int def "+low+"("+low+": "+up+"."+up+"): "+up+" = "+low+"("+low[1:]+" + "+low[1:]+"("+low+")) - "+up+"."+low+"("+low+") type "+up[1:]+" = "+up[2:])
}
