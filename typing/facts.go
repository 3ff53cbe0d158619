package typing

import (
	"semvcs/api"
	"semvcs/link"
	"semvcs/tree"
	"semvcs/types"
)

// facts is what is known of a program before its expressions are looked at.
type facts struct {
	words       map[word]api.Target
	definitions [][]definition
}

// word is a word that is used in a module.
type word struct {
	module int
	text   string
}

// definition is what is known of a definition: of a function the types that it
// requires and the one of its result, of an alias its type and whether it is
// circular.
type definition struct {
	params   []flat
	result   flat
	circular bool
}

// learn returns the facts of a program.
func learn(p []api.Tree) facts {
	f := facts{words: meanings(p)}
	q := aliases(p)
	for m, t := range p {
		l := make([]definition, len(t.Kids))
		n := 0
		for d, k := range t.Kids {
			if k.Kind == api.Alias {
				l[d] = learnAlias(q, m, n)
				n++
			}
		}
		f.definitions = append(f.definitions, l)
	}
	for m, t := range p {
		for d, k := range t.Kids {
			if k.Kind == api.Func {
				f.definitions[m][d] = f.learnFunction(m, k)
			}
		}
	}
	return f
}

// meanings returns what the words in a program refer to.
func meanings(p []api.Tree) map[word]api.Target {
	words := map[word]api.Target{}
	q := uses(p)
	for _, x := range link.Targets(q) {
		t, _ := tree.At(q[x.Use.Module], x.Use.Path)
		words[word{x.Use.Module, t.Text}] = x
	}
	return words
}

// learnAlias returns what is known of the n-th alias of a module of a program that
// has no functions.
func learnAlias(q []api.Tree, module, n int) definition {
	x, e := types.Expand(q, module, q[module].Kids[n].Kids[0])
	if e == api.OK {
		inner, lists := core(x)
		return definition{result: flat{lists, inner.Kind}}
	}
	return definition{circular: types.Circular(q, module, n)}
}

// learnFunction returns what is known of a function of a module, as soon as the
// types of all aliases are known.
func (f facts) learnFunction(module int, t api.Tree) definition {
	last := len(t.Kids) - 1
	d := definition{result: f.meant(module, t.Kids[last-1])}
	for _, k := range t.Kids[:last-1] {
		d.params = append(d.params, f.meant(module, k.Kids[0]))
	}
	return d
}

// meant returns the type that a type in a module means.
func (f facts) meant(module int, t api.Tree) flat {
	inner, lists := core(t)
	if inner.Kind != api.TName {
		return flat{lists, inner.Kind}
	}
	d, _ := f.definition(module, inner.Text)
	return d.result.within(lists)
}

// definition returns what is known of the one that a word in a module refers
// to, and whether there is one.
func (f facts) definition(module int, text string) (definition, bool) {
	x := f.words[word{module, text}]
	if x.Free {
		return definition{}, false
	}
	return f.definitions[x.Module][x.Def], true
}

// aliases returns a program without its functions: layer 7 looks at all of a
// program for each type.
func aliases(p []api.Tree) []api.Tree {
	var q []api.Tree
	for _, t := range p {
		m := api.Tree{Kind: t.Kind, Text: t.Text}
		for _, d := range t.Kids {
			if d.Kind == api.Alias {
				m.Kids = append(m.Kids, d)
			}
		}
		q = append(q, m)
	}
	return q
}

// uses returns a program with the same definitions and, in each of them, the
// same uses, none of which is deep: layer 6 gives the path of each use, and the
// paths would be too long together if calls were nested deeply.
func uses(p []api.Tree) []api.Tree {
	var q []api.Tree
	for _, t := range p {
		m := api.Tree{Kind: t.Kind, Text: t.Text}
		for _, d := range t.Kids {
			m.Kids = append(m.Kids, api.Tree{Kind: d.Kind, Text: d.Text, Kids: shallow(d)})
		}
		q = append(q, m)
	}
	return q
}

// shallow returns the kids for a definition with the same uses.
func shallow(d api.Tree) []api.Tree {
	var l []api.Tree
	for _, k := range d.Kids {
		switch {
		case k.Kind == api.Param:
			inner, _ := core(k.Kids[0])
			l = append(l, api.Tree{Kind: k.Kind, Text: k.Text, Kids: []api.Tree{inner}})
		case api.TInt <= k.Kind && k.Kind <= api.TName:
			inner, _ := core(k)
			l = append(l, inner)
		default:
			// A list has at least one item, also if there is no call.
			items := calls([]api.Tree{{Kind: api.Hole}}, k)
			l = append(l, api.Tree{Kind: api.List, Kids: items})
		}
	}
	return l
}

// calls returns l with the calls in t behind it, without their arguments.
func calls(l []api.Tree, t api.Tree) []api.Tree {
	if t.Kind == api.Call {
		l = append(l, api.Tree{Kind: t.Kind, Text: t.Text})
	}
	for _, k := range t.Kids {
		l = calls(l, k)
	}
	return l
}
