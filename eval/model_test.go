package eval_test

import (
	"fmt"
	"maps"
	"slices"
	"strconv"
	"strings"
	"testing"

	"semvcs/api"
	"semvcs/eval"
	"semvcs/link"
	"semvcs/scope"
	"semvcs/syntax"
	"semvcs/tree"
)

// outcome is what a run returns.
type outcome struct {
	value api.Datum
	used  int
	e     api.Errno
}

// shown is an outcome as a text: the value or the error, and the fuel.
func (o outcome) shown() string {
	names := map[api.Errno]string{api.ErrArg: "arg", api.ErrFuel: "fuel", api.ErrNone: "none", api.ErrType: "type", api.ErrLong: "long"}
	word := names[o.e]
	switch {
	case o.e == api.OK:
		word = show(o.value)
	case word == "" || !same(o.value, api.Datum{}):
		word = fmt.Sprint("error ", int(o.e), " with ", o.value)
	}
	return fmt.Sprint(word, " used ", o.used)
}

// show is a datum as a text, different for different data.
func show(d api.Datum) string {
	switch {
	case d.Kind == api.DInt && same(d, num(d.N)):
		return fmt.Sprint(d.N)
	case d.Kind == api.DText && same(d, str(d.S)):
		return strconv.Quote(d.S)
	case d.Kind == api.DBool && same(d, truth(true)):
		return "true"
	case d.Kind == api.DBool && same(d, truth(false)):
		return "false"
	case d.Kind == api.DList && same(d, list(d.L...)):
		var l []string
		for _, x := range d.L {
			l = append(l, show(x))
		}
		return "[" + strings.Join(l, ", ") + "]"
	}
	var l []string
	for _, x := range d.L {
		l = append(l, show(x))
	}
	return fmt.Sprintf("{%d %d %q %s}", d.Kind, d.N, d.S, l)
}

func num(n int64) api.Datum           { return api.Datum{Kind: api.DInt, N: n} }
func str(s string) api.Datum          { return api.Datum{Kind: api.DText, S: s} }
func list(l ...api.Datum) api.Datum   { return api.Datum{Kind: api.DList, L: l} }
func data(l ...api.Datum) []api.Datum { return l }

func truth(b bool) api.Datum {
	return api.Datum{Kind: api.DBool, N: map[bool]int64{true: 1}[b]}
}

// same reports whether all fields of two data are equal.
func same(a, b api.Datum) bool {
	if a.Kind != b.Kind || a.N != b.N || a.S != b.S || len(a.L) != len(b.L) {
		return false
	}
	for i := range a.L {
		if !same(a.L[i], b.L[i]) {
			return false
		}
	}
	return true
}

// weight is the whole weight of a datum, which is a tree.
func weight(d api.Datum) int {
	n := 1 + len(d.S)
	for _, x := range d.L {
		n += weight(x)
	}
	return n
}

// valid reports whether a datum is valid.
func valid(d api.Datum) bool {
	unused := map[int]api.Datum{api.DInt: {S: d.S, L: d.L}, api.DText: {N: d.N, L: d.L}, api.DBool: {S: d.S, L: d.L, N: d.N / 2}, api.DList: {N: d.N, S: d.S}}
	x, known := unused[d.Kind]
	if !known || !same(x, api.Datum{}) || d.Kind == api.DBool && d.N < 0 {
		return false
	}
	for _, y := range d.L {
		if !valid(y) {
			return false
		}
	}
	return weight(d) <= api.MaxWeight
}

// judge evaluates as the chapter says. It asks layer 5 which binder is that of a
// variable and layer 6 what a call refers to.
type judge struct {
	p          []api.Tree
	used, fuel int
	known      map[string]any // what other layers said
}

// frame is a function that is being evaluated: where it is, and the values of
// its parameters and lets by their paths.
type frame struct {
	module, def int
	values      map[string]api.Datum
}

// binder and callee are what other layers say of a variable and of a call.
type binder struct {
	path  string
	found bool
}

type callee struct {
	module, def int
	found       bool
}

// once returns what ask returns, which it calls once for each key.
func once[T any](j *judge, key string, ask func() T) T {
	v, known := j.known[key]
	if !known {
		v = ask()
		j.known[key] = v
	}
	return v.(T)
}

// failure is an error that ends an evaluation.
type failure struct{ e api.Errno }

// isProgram reports whether a list is a program, as chapter 6 defines it.
func isProgram(p []api.Tree) bool {
	return !slices.ContainsFunc(p, func(m api.Tree) bool { return m.Kind != api.Module || !syntax.Shaped(m) })
}

// expected is what a run has to return.
func expected(p []api.Tree, module, def int, args []api.Datum, fuel int) (o outcome) {
	wrong := outcome{e: api.ErrArg}
	if !isProgram(p) || module < 0 || module >= len(p) || def < 0 || def >= len(p[module].Kids) {
		return wrong
	}
	f := p[module].Kids[def]
	if f.Kind != api.Func || parameters(f) != len(args) || fuel < 0 || fuel > api.MaxFuel {
		return wrong
	}
	for _, d := range args {
		if !valid(d) {
			return wrong
		}
	}
	j := &judge{p, 0, fuel, map[string]any{}}
	defer func() {
		switch r := recover().(type) {
		case nil:
		case failure:
			o = outcome{used: j.used, e: r.e}
		default:
			panic(r)
		}
	}()
	o.value = j.call(module, def, args)
	o.used = j.used
	return o
}

func parameters(f api.Tree) int { return len(f.Kids) - 2 }

// call is the value of a function.
func (j *judge) call(module, def int, args []api.Datum) api.Datum {
	x := frame{module, def, map[string]api.Datum{}}
	for i, d := range args {
		x.values[fmt.Sprint([]int{i})] = d
	}
	return j.value(x, []int{len(args) + 1})
}

// value is that of the expression at a path of the function of a frame.
func (j *judge) value(x frame, path []int) api.Datum {
	t := j.p[x.module].Kids[x.def]
	for _, i := range path {
		t = t.Kids[i]
	}
	if t.Kind != api.Arg {
		j.require(j.used < j.fuel, api.ErrFuel)
		j.used++
	}
	kid := func(i int) api.Datum { return j.value(x, slices.Concat(path, []int{i})) }
	switch t.Kind {
	case api.Num:
		n, err := strconv.ParseInt(t.Text, 10, 64)
		if err != nil {
			panic(err)
		}
		return num(n)
	case api.Str:
		return str(strings.Trim(t.Text, `"`))
	case api.True, api.False:
		return truth(t.Kind == api.True)
	case api.Var:
		b := once(j, fmt.Sprint(x.module, x.def, path), func() binder {
			b, found := scope.Binder(j.p[x.module].Kids[x.def], path, t.Text)
			return binder{fmt.Sprint(b), found}
		})
		j.require(b.found, api.ErrNone)
		return x.values[b.path]
	case api.If:
		c := kid(0)
		j.require(c.Kind == api.DBool, api.ErrType)
		return kid(2 - int(c.N))
	case api.Let:
		x.values[fmt.Sprint(path)] = kid(0)
		return kid(1)
	case api.Paren, api.Arg:
		return kid(0)
	case api.Hole:
		panic(failure{api.ErrNone})
	}
	var l []api.Datum
	for i := range t.Kids {
		l = append(l, kid(i))
	}
	return j.combine(x, t, l)
}

// combine is the value of a list, a call or an operation with these kids.
func (j *judge) combine(x frame, t api.Tree, l []api.Datum) api.Datum {
	switch t.Kind {
	case api.List:
		return j.light(list(l...))
	case api.Call:
		f := once(j, fmt.Sprint(x.module, t.Text), func() callee {
			m, d, found := link.Lookup(j.p, x.module, t.Text)
			return callee{m, d, found}
		})
		j.require(f.found, api.ErrNone)
		j.require(parameters(j.p[f.module].Kids[f.def]) == len(l), api.ErrArg)
		return j.call(f.module, f.def, l)
	case api.Bin:
		return j.operation(t.Text, l[0], l[1])
	}
	panic(fmt.Sprint("an expression of kind ", t.Kind))
}

func (j *judge) operation(sign string, a, b api.Datum) api.Datum {
	j.require(a.Kind == b.Kind, api.ErrType)
	if sign == "==" {
		return truth(same(a, b))
	}
	if sign == "+" && a.Kind == api.DText {
		return j.light(str(a.S + b.S))
	}
	j.require(a.Kind == api.DInt, api.ErrType)
	if sign == "<" {
		return truth(a.N < b.N)
	}
	return num(map[string]int64{"+": a.N + b.N, "-": a.N - b.N, "*": a.N * b.N}[sign])
}

func (j *judge) light(d api.Datum) api.Datum {
	j.require(weight(d) <= api.MaxWeight, api.ErrLong)
	return d
}

func (j *judge) require(holds bool, e api.Errno) {
	if !holds {
		panic(failure{e})
	}
}

// checkRun compares what is returned by runs of a function, with this fuel and
// with less, with what the judge says of it, and returns that for this fuel.
func checkRun(t *testing.T, p []api.Tree, module, def int, args []api.Datum, fuel int) outcome {
	t.Helper()
	full := expected(p, module, def, args, fuel)
	beforeTrees, beforeData := wholes(p), wholeData(args)
	// The keys are fuels: with enough fuel a run is as it is with more.
	fuels := map[int]bool{fuel: true, 0: true, 1: true, full.used - 1: true, full.used: true, full.used + 1: true, full.used / 2: true}
	if full.e != api.ErrFuel && full.e != api.ErrArg {
		fuels[api.MaxFuel] = true
	}
	for _, n := range slices.Sorted(maps.Keys(fuels)) {
		want := full
		switch {
		case n < 0 || full.e == api.ErrFuel && n > fuel:
			continue
		case full.e == api.ErrArg:
			want = expected(p, module, def, args, n)
		case full.used > n:
			want = outcome{used: n, e: api.ErrFuel}
		}
		var got outcome
		got.value, got.used, got.e = eval.Run(p, module, def, args, n)
		if got.shown() != want.shown() {
			t.Fatalf("P9.2: in %q the run of %d %d of %s with fuel %d is %s, not %s", sources(p), module, def, show(list(args...)), n, got.shown(), want.shown())
		}
		if got.e == api.OK && !eval.Same(got.value, want.value) {
			t.Fatalf("P9.1: %s is not the same as %s", show(got.value), show(want.value))
		}
	}
	if !slices.EqualFunc(wholes(p), beforeTrees, tree.Same) || !slices.EqualFunc(wholeData(args), beforeData, same) {
		t.Fatalf("R2: %v or %v have changed", p, args)
	}
	return full
}

// checkDatum checks what is told of a datum.
func checkDatum(t *testing.T, d api.Datum) {
	t.Helper()
	before := wholeDatum(d)
	if got, want := eval.Weight(d), min(weight(d), api.MaxWeight+1); got != want {
		t.Fatalf("P9.1: the weight of %s is %d, not %d", show(d), got, want)
	}
	if got, want := eval.Valid(d), valid(d); got != want {
		t.Fatalf("P9.1: Valid of %s is %v", show(d), got)
	}
	if !eval.Same(d, d) || !eval.Same(d, roomyDatum(d)) {
		t.Fatalf("P9.1: %s is not the same as itself", show(d))
	}
	if !same(before, wholeDatum(d)) {
		t.Fatalf("R2: %s is %s now", show(before), show(wholeDatum(d)))
	}
}

// checkAlike checks what Same says of two data.
func checkAlike(t *testing.T, a, b api.Datum) {
	t.Helper()
	before := data(wholeDatum(a), wholeDatum(b))
	want := same(a, b)
	if eval.Same(a, b) != want || eval.Same(b, a) != want {
		t.Fatalf("P9.1: Same of %s and %s is not %v", show(a), show(b), want)
	}
	if !same(before[0], wholeDatum(a)) || !same(before[1], wholeDatum(b)) {
		t.Fatalf("R2: %s or %s have changed", show(a), show(b))
	}
}

// sources are the texts of modules.
func sources(p []api.Tree) []string {
	var l []string
	for _, m := range p {
		l = append(l, syntax.Print(withLeads(m)))
	}
	return l
}

// withLeads returns a tree with one blank as each lead.
func withLeads(x api.Tree) api.Tree {
	if n := syntax.Leads(x.Kind, len(x.Kids)); n >= 0 {
		x.Leads = slices.Repeat([]string{" "}, n)
	}
	x.Kids = slices.Clone(x.Kids)
	for i, k := range x.Kids {
		x.Kids[i] = withLeads(k)
	}
	return x
}

// whole returns a copy of a tree with what lies in spare capacity, and wholes
// one of a list of trees.
func whole(x api.Tree) api.Tree {
	x.Leads = slices.Clone(x.Leads[:cap(x.Leads)])
	x.Kids = wholes(x.Kids)
	return x
}

func wholes(p []api.Tree) []api.Tree {
	l := slices.Clone(p[:cap(p)])
	for i, t := range l {
		l[i] = whole(t)
	}
	return l
}

// wholeDatum returns a copy of a datum with what lies in spare capacity, and
// wholeData one of a list of data.
func wholeDatum(d api.Datum) api.Datum {
	d.L = wholeData(d.L)
	return d
}

func wholeData(l []api.Datum) []api.Datum {
	l = slices.Clone(l[:cap(l)])
	for i, d := range l {
		l[i] = wholeDatum(d)
	}
	return l
}

// roomy returns trees equal to these, with spare capacity that is not zero in
// all slices.
func roomy(p []api.Tree) []api.Tree {
	l := []api.Tree{}
	for _, x := range p {
		leads := append([]string{}, x.Leads...)
		x.Leads = append(leads, "spare", "spare")[:len(leads)]
		x.Kids = roomy(x.Kids)
		l = append(l, x)
	}
	return append(l, node(api.Alias, "T"), node(api.Var, "x"))[:len(l)]
}

// roomyDatum returns a datum equal to this one with spare capacity that is not
// zero, and roomyData such a list.
func roomyDatum(d api.Datum) api.Datum {
	d.L = roomyData(d.L)
	return d
}

func roomyData(l []api.Datum) []api.Datum {
	copied := []api.Datum{}
	for _, d := range l {
		copied = append(copied, roomyDatum(d))
	}
	return append(copied, num(7), str("spare"))[:len(l)]
}
