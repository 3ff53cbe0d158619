package syntax

import (
	"strings"

	"semvcs/api"
	"semvcs/lex"
)

// printable reports whether a tree has a text.
func printable(t api.Tree) bool {
	return Shaped(t) && led(t)
}

// led reports whether the nodes of a tree of the right shape have the leads
// that they need.
func led(t api.Tree) bool {
	if len(t.Leads) != Leads(t.Kind, len(t.Kids)) {
		return false
	}
	for i, lead := range t.Leads {
		end := t.Kind == api.Module && i == 2
		if !lex.Trivia(lead, end) {
			return false
		}
	}
	for _, k := range t.Kids {
		if !led(k) {
			return false
		}
	}
	return true
}

// limited reports whether no node of a tree of the right shape has too many kids.
func limited(t api.Tree) bool {
	l := parts(t.Kind)
	n, _ := free(l, len(t.Kids))
	for _, x := range l {
		if x.count(n) > x.most {
			return false
		}
	}
	for _, k := range t.Kids {
		if !limited(k) {
			return false
		}
	}
	return true
}

// within reports whether a tree has at most this many levels.
func within(t api.Tree, levels int) bool {
	if levels == 0 {
		return false
	}
	for _, k := range t.Kids {
		if !within(k, levels-1) {
			return false
		}
	}
	return true
}

// text returns the text of a printable tree.
func text(t api.Tree) string {
	var w writer
	w.tree(t)
	return w.text.String()
}

// writer writes the text of a printable tree.
type writer struct {
	text strings.Builder
	last string // the token that was written last
}

func (w *writer) token(lead, text string) {
	if lead == "" && lex.Fuses(w.last, text) {
		lead = " "
	}
	w.text.WriteString(lead)
	w.text.WriteString(text)
	w.last = text
}

func (w *writer) tree(t api.Tree) {
	l := parts(t.Kind)
	n, _ := free(l, len(t.Kids))
	kids, leads := t.Kids, t.Leads
	commas := leads[tokens(l):]
	for _, x := range l {
		switch {
		case x.kids != 0:
			w.kids(kids[:x.count(n)], commas, x)
			kids = kids[x.count(n):]
			continue
		case x.name != nil:
			w.token(leads[0], t.Text)
		default:
			w.token(leads[0], x.word)
		}
		leads = leads[1:]
	}
}

// kids writes the kids that belong to one part of a node whose commas have
// these leads.
func (w *writer) kids(l []api.Tree, commas []string, x part) {
	for i, k := range l {
		if i > 0 && x.commas {
			w.token(commas[i-1], ",")
		}
		w.tree(k)
	}
}
