package eval

import (
	"semvcs/api"
	"semvcs/link"
	"semvcs/syntax"
	"semvcs/tree"
)

// function is a function of a program: the indices of its module and of itself.
type function struct{ module, def int }

// tree returns the tree of a function.
func (f function) tree(p []api.Tree) api.Tree { return p[f.module].Kids[f.def] }

// word is a word that is used in a module.
type word struct {
	module int
	text   string
}

// program reports whether a list is a program.
func program(p []api.Tree) bool {
	for _, t := range p {
		if t.Kind != api.Module || !syntax.Shaped(t) {
			return false
		}
	}
	return true
}

// takes reports whether a program has this function, with so many parameters.
func takes(p []api.Tree, f function, args int) bool {
	if f.module < 0 || f.module >= len(p) || f.def < 0 || f.def >= len(p[f.module].Kids) {
		return false
	}
	t := f.tree(p)
	return t.Kind == api.Func && len(t.Kids)-2 == args
}

// meanings returns the functions that the words of calls in a program refer to.
func meanings(p []api.Tree) map[word]function {
	words := map[word]function{}
	q := outline(p)
	for _, x := range link.Targets(q) {
		if t, _ := tree.At(q[x.Use.Module], x.Use.Path); !x.Free {
			words[word{x.Use.Module, t.Text}] = function{x.Module, x.Def}
		}
	}
	return words
}

// outline returns a program with the same definitions and, in each of them, the
// same calls, none of which is deep: layer 6 gives the path of each use, and the
// paths would be too long together if calls were nested deeply.
func outline(p []api.Tree) []api.Tree {
	var q []api.Tree
	for _, t := range p {
		m := api.Tree{Kind: t.Kind, Text: t.Text}
		for _, d := range t.Kids {
			x := api.Tree{Kind: d.Kind, Text: d.Text, Kids: []api.Tree{{Kind: api.TInt}}}
			if d.Kind == api.Func {
				// A list has at least one item, also if there is no call.
				items := calls([]api.Tree{{Kind: api.Hole}}, d.Kids[len(d.Kids)-1])
				x.Kids = append(x.Kids, api.Tree{Kind: api.List, Kids: items})
			}
			m.Kids = append(m.Kids, x)
		}
		q = append(q, m)
	}
	return q
}

// calls returns l with the calls in t behind it, without their arguments.
func calls(l []api.Tree, t api.Tree) []api.Tree {
	if t.Kind == api.Call {
		l = append(l, api.Tree{Kind: t.Kind, Text: t.Text})
	}
	for _, k := range t.Kids {
		l = calls(l, k)
	}
	return l
}
