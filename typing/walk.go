package typing

import (
	"slices"

	"semvcs/api"
)

// walk is a walk through a program: where it is, which binders are around this
// node (the innermost one last), and the errors so far.
type walk struct {
	facts
	at     api.Place
	around []binder
	errors []api.TypeError
}

// binder is a parameter or a Let.
type binder struct {
	name string
	of   flat
}

// node looks for errors in t, where the walk is, and returns the type of t if it
// is an expression.
func (w *walk) node(t api.Tree) flat {
	switch t.Kind {
	case api.Func:
		return w.function(t)
	case api.Alias:
		return w.alias(t)
	case api.TName:
		return w.name(t)
	case api.Num:
		return flat{basic: api.TInt}
	case api.Str:
		return flat{basic: api.TText}
	case api.True, api.False:
		return flat{basic: api.TBool}
	case api.Var:
		return w.variable(t)
	case api.Call:
		return w.call(t)
	case api.List:
		return w.list(t)
	case api.If:
		return w.choice(t)
	case api.Let:
		return w.let(t)
	case api.Bin:
		return w.operation(t)
	}
	return w.plain(t)
}

// plain is for nodes that have no rule of their own: a Paren has the type of its
// kid, and what has no kids, as a Hole, the unknown one.
func (w *walk) plain(t api.Tree) flat {
	var x flat
	for i := range t.Kids {
		x, _ = w.kid(t, i)
	}
	return x
}

func (w *walk) function(t api.Tree) flat {
	last := len(t.Kids) - 1
	for i := range last {
		w.kid(t, i)
	}
	return w.need(t, last, w.own().result, api.FaultType)
}

func (w *walk) alias(t api.Tree) flat {
	if w.own().circular {
		w.report(api.FaultCycle)
	}
	return w.plain(t)
}

func (w *walk) name(t api.Tree) flat {
	if _, found := w.definition(w.at.Module, t.Text); !found {
		w.report(api.FaultFree)
	}
	return flat{}
}

func (w *walk) variable(t api.Tree) flat {
	for _, b := range slices.Backward(w.around) {
		if b.name == t.Text {
			return b.of
		}
	}
	w.report(api.FaultFree)
	return flat{}
}

func (w *walk) call(t api.Tree) flat {
	f, found := w.definition(w.at.Module, t.Text)
	switch {
	case !found:
		w.report(api.FaultFree)
	case len(t.Kids) != len(f.params):
		w.report(api.FaultCount)
	}
	path := w.at.Path
	for i, a := range t.Kids {
		var want flat
		if i < len(f.params) {
			want = f.params[i]
		}
		w.at.Path = append(path, i)
		w.need(a, 0, want, api.FaultType)
	}
	w.at.Path = path
	return f.result
}

func (w *walk) list(t api.Tree) flat {
	var first flat
	for i := range t.Kids {
		x := w.need(t, i, first, api.FaultUnlike)
		if !first.known() {
			first = x
		}
	}
	return first.within(1)
}

func (w *walk) choice(t api.Tree) flat {
	w.need(t, 0, flat{basic: api.TBool}, api.FaultType)
	yes, _ := w.kid(t, 1)
	no := w.need(t, 2, yes, api.FaultUnlike)
	if yes.known() {
		return yes
	}
	return no
}

// let leaves the value to the way into the body.
func (w *walk) let(t api.Tree) flat {
	x, _ := w.kid(t, 1)
	return x
}

func (w *walk) operation(t api.Tree) flat {
	switch t.Text {
	case "+":
		return w.sum(t)
	case "==":
		left, _ := w.kid(t, 0)
		w.need(t, 1, left, api.FaultUnlike)
		return flat{basic: api.TBool}
	}
	number := flat{basic: api.TInt}
	w.need(t, 0, number, api.FaultType)
	w.need(t, 1, number, api.FaultType)
	if t.Text == "<" {
		return flat{basic: api.TBool}
	}
	return number
}

func (w *walk) sum(t api.Tree) flat {
	left, from := w.kid(t, 0)
	if left.known() && !left.addable() {
		w.fault(0, from, api.FaultType)
	}
	right, from := w.kid(t, 1)
	switch {
	case right.known() && !right.addable():
		w.fault(1, from, api.FaultType)
	case left.addable() && right.differs(left):
		w.fault(1, from, api.FaultUnlike)
	}
	if left.addable() {
		return left
	}
	if right.addable() {
		return right
	}
	return flat{}
}

// own returns what is known of the definition where the walk is.
func (w *walk) own() definition {
	return w.definitions[w.at.Module][w.at.Path[0]]
}

// need returns the type of the i-th kid of t, where the walk is, and reports
// this error at the kid if the type differs from the one that is wanted.
func (w *walk) need(t api.Tree, i int, want flat, kind int) flat {
	x, from := w.kid(t, i)
	if x.differs(want) {
		w.fault(i, from, kind)
	}
	return x
}

// kid returns the type of the i-th kid of t, where the walk is, and how many
// errors had been found before those in the kid.
func (w *walk) kid(t api.Tree, i int) (flat, int) {
	// Kids may use the same spare capacity of both, one after the other: what is
	// there is needed only as long as the walk is in the kid.
	path, around := w.at.Path, w.around
	w.enter(t, i)
	from := len(w.errors)
	x := w.node(t.Kids[i])
	w.at.Path, w.around = path, around
	return x, from
}

// enter goes from t, where the walk is, to its i-th kid.
func (w *walk) enter(t api.Tree, i int) {
	switch {
	case t.Kind == api.Let && i == 1:
		value, _ := w.kid(t, 0)
		w.around = append(w.around, binder{t.Text, value})
	case t.Kind == api.Func && i == len(t.Kids)-1:
		// The first parameter of a name counts, so the first one comes last.
		for k, x := range slices.Backward(w.own().params) {
			w.around = append(w.around, binder{t.Kids[k].Text, x})
		}
	}
	w.at.Path = append(w.at.Path, i)
}

// report adds an error at the node where the walk is.
func (w *walk) report(kind int) {
	at := api.Place{Module: w.at.Module, Path: slices.Clone(w.at.Path)}
	w.errors = append(w.errors, api.TypeError{At: at, Kind: kind})
}

// fault inserts an error at the i-th kid of the node where the walk is. The
// errors in the kid begin at from: those at the kid itself are of lesser kinds,
// and come first; those below it come later.
func (w *walk) fault(i, from, kind int) {
	at := api.Place{Module: w.at.Module, Path: slices.Concat(w.at.Path, []int{i})}
	for from < len(w.errors) && len(w.errors[from].At.Path) == len(at.Path) {
		from++
	}
	w.errors = slices.Insert(w.errors, from, api.TypeError{At: at, Kind: kind})
}
