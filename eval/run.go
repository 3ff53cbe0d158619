package eval

import (
	"slices"
	"strconv"

	"semvcs/api"
)

// run is the evaluation of a program. While it runs, data share memory with each
// other and with the arguments.
type run struct {
	p     []api.Tree
	words map[word]function
	fuel  int // what is left of it
}

// environment is a parameter or a let around a node, with its value and what is
// further out.
type environment struct {
	name  string
	bound api.Datum
	outer *environment
}

// apply returns the value of a function that takes so many arguments.
func (r *run) apply(f function, args []api.Datum) (api.Datum, api.Errno) {
	t := f.tree(r.p)
	var env *environment
	// The first one of several parameters of the same name becomes the innermost.
	for i, d := range slices.Backward(args) {
		env = &environment{t.Kids[i].Text, d, env}
	}
	return r.node(f.module, t.Kids[len(t.Kids)-1], env)
}

// node returns the value of an expression in a module.
func (r *run) node(module int, t api.Tree, env *environment) (api.Datum, api.Errno) {
	if r.fuel == 0 {
		return api.Datum{}, api.ErrFuel
	}
	r.fuel--
	switch t.Kind {
	case api.Num:
		n, _ := strconv.ParseInt(t.Text, 10, 64)
		return api.Datum{Kind: api.DInt, N: n}, api.OK
	case api.Str:
		return api.Datum{Kind: api.DText, S: t.Text[1 : len(t.Text)-1]}, api.OK
	case api.True, api.False:
		return truth(t.Kind == api.True), api.OK
	case api.Var:
		return env.value(t.Text)
	case api.Call:
		return r.call(module, t, env)
	case api.List:
		return r.list(module, t, env)
	case api.If:
		return r.branch(module, t, env)
	case api.Let:
		return r.let(module, t, env)
	case api.Bin:
		return r.operation(module, t, env)
	case api.Paren:
		return r.node(module, t.Kids[0], env)
	}
	return api.Datum{}, api.ErrNone // a hole
}

// value returns the value of the innermost binder with this name.
func (env *environment) value(name string) (api.Datum, api.Errno) {
	for ; env != nil; env = env.outer {
		if env.name == name {
			return env.bound, api.OK
		}
	}
	return api.Datum{}, api.ErrNone
}

// all returns the values of expressions or arguments.
func (r *run) all(module int, kids []api.Tree, env *environment) ([]api.Datum, api.Errno) {
	var l []api.Datum
	for _, k := range kids {
		if k.Kind == api.Arg {
			k = k.Kids[0]
		}
		d, e := r.node(module, k, env)
		if e != api.OK {
			return nil, e
		}
		l = append(l, d)
	}
	return l, api.OK
}

// call returns the value of a Call.
func (r *run) call(module int, t api.Tree, env *environment) (api.Datum, api.Errno) {
	args, e := r.all(module, t.Kids, env)
	if e != api.OK {
		return api.Datum{}, e
	}
	f, found := r.words[word{module, t.Text}]
	if !found {
		return api.Datum{}, api.ErrNone
	}
	if !takes(r.p, f, len(args)) {
		return api.Datum{}, api.ErrArg
	}
	return r.apply(f, args)
}

// list returns the value of a List.
func (r *run) list(module int, t api.Tree, env *environment) (api.Datum, api.Errno) {
	items, e := r.all(module, t.Kids, env)
	if e != api.OK {
		return api.Datum{}, e
	}
	d := api.Datum{Kind: api.DList, L: items}
	if Weight(d) > api.MaxWeight {
		return api.Datum{}, api.ErrLong
	}
	return d, api.OK
}

// branch returns the value of an If.
func (r *run) branch(module int, t api.Tree, env *environment) (api.Datum, api.Errno) {
	d, e := r.node(module, t.Kids[0], env)
	if e != api.OK {
		return api.Datum{}, e
	}
	if d.Kind != api.DBool {
		return api.Datum{}, api.ErrType
	}
	if d.N == 1 {
		return r.node(module, t.Kids[1], env)
	}
	return r.node(module, t.Kids[2], env)
}

// let returns the value of a Let.
func (r *run) let(module int, t api.Tree, env *environment) (api.Datum, api.Errno) {
	d, e := r.node(module, t.Kids[0], env)
	if e != api.OK {
		return api.Datum{}, e
	}
	return r.node(module, t.Kids[1], &environment{t.Text, d, env})
}

// operation returns the value of a Bin.
func (r *run) operation(module int, t api.Tree, env *environment) (api.Datum, api.Errno) {
	l, e := r.all(module, t.Kids, env)
	if e != api.OK {
		return api.Datum{}, e
	}
	a, b := l[0], l[1]
	switch {
	case t.Text == "==" && a.Kind == b.Kind:
		return truth(Same(a, b)), api.OK
	case t.Text == "+" && a.Kind == api.DText && b.Kind == api.DText:
		return joined(a.S, b.S)
	case a.Kind == api.DInt && b.Kind == api.DInt:
		return computed(t.Text, a.N, b.N), api.OK
	}
	return api.Datum{}, api.ErrType
}

// joined returns two texts as one.
func joined(a, b string) (api.Datum, api.Errno) {
	if 1+len(a)+len(b) > api.MaxWeight {
		return api.Datum{}, api.ErrLong
	}
	return api.Datum{Kind: api.DText, S: a + b}, api.OK
}

// computed returns what an operator other than == makes of two integers.
func computed(operator string, a, b int64) api.Datum {
	switch operator {
	case "<":
		return truth(a < b)
	case "-":
		a -= b
	case "*":
		a *= b
	default:
		a += b
	}
	return api.Datum{Kind: api.DInt, N: a}
}

// truth returns a boolean.
func truth(holds bool) api.Datum {
	d := api.Datum{Kind: api.DBool}
	if holds {
		d.N = 1
	}
	return d
}
