package layout_test

import (
	"slices"
	"strconv"
	"strings"
	"testing"

	"semvcs/api"
	"semvcs/layout"
	"semvcs/lex"
	"semvcs/syntax"
	"semvcs/tree"
)

// token is a token of a tree: its text, and which lead of which node it has.
// The end of a file has no text.
type token struct {
	text string
	node *api.Tree
	lead int
}

// tokens returns the tokens of a tree of the right shape in the order of its
// text: in the text of a copy each lead is its own number, in a comment.
func tokens(x *api.Tree) []token {
	marked := clone(*x)
	originals, copies := nodes(x), nodes(&marked)
	var places []token
	for i, n := range copies {
		n.Leads = nil
		for k := range syntax.Leads(n.Kind, len(n.Kids)) {
			n.Leads = append(n.Leads, "#"+strconv.Itoa(len(places))+"\n")
			places = append(places, token{node: originals[i], lead: k})
		}
	}
	lines := strings.Split(syntax.Print(marked), "\n")
	var l []token
	for i, line := range lines[:len(lines)-1] {
		mark := strings.LastIndexByte(line, '#')
		number, _ := strconv.Atoi(line[mark+1:])
		if i > 0 {
			l[i-1].text = line[:mark]
		}
		l = append(l, places[number])
	}
	l[len(l)-1].text = lines[len(lines)-1]
	return l
}

// nodes returns the nodes of a tree in preorder.
func nodes(x *api.Tree) []*api.Tree {
	l := []*api.Tree{x}
	for i := range x.Kids {
		l = append(l, nodes(&x.Kids[i])...)
	}
	return l
}

// clone returns a tree equal to x, all of whose slices have spare capacity
// that is not zero.
func clone(x api.Tree) api.Tree {
	x.Leads = append(slices.Clone(x.Leads), "spare", "spare")[:len(x.Leads)]
	kids := []api.Tree{}
	for _, k := range x.Kids {
		kids = append(kids, clone(k))
	}
	x.Kids = append(kids, api.Tree{Kind: api.Hole, Text: "spare"})[:len(kids)]
	return x
}

// canonical returns x, a tree of the right shape, with the leads that the
// chapter's definition gives to one token after the other.
func canonical(x api.Tree) api.Tree {
	x = clone(x)
	l := tokens(&x)
	for _, n := range nodes(&x) {
		n.Leads = make([]string, syntax.Leads(n.Kind, len(n.Kids)))
	}
	for i, y := range l {
		y.node.Leads[y.lead] = canonicalLead(l, i, x.Kind)
	}
	return x
}

func canonicalLead(l []token, i, root int) string {
	kind := l[i].node.Kind
	switch l[i].text {
	case ")", "]", ",", ":":
		return ""
	case "(":
		if kind == api.Func || kind == api.Call {
			return ""
		}
	case "":
		return "\n"
	}
	switch {
	case i == 0, l[i-1].text == "(", l[i-1].text == "[":
		return ""
	case root == api.Module && (kind == api.Func || kind == api.Alias) && l[i].lead == 0:
		return "\n\n"
	}
	return " "
}

// commentsOf returns the comments of a printable tree, lead by lead.
func commentsOf(x api.Tree) []string {
	var l []string
	for _, y := range tokens(&x) {
		for _, line := range strings.Split(y.node.Leads[y.lead], "\n") {
			if at := strings.IndexByte(line, '#'); at >= 0 {
				l = append(l, line[at:])
			}
		}
	}
	return l
}

// exact returns the leads and texts of a tree in the order of its text.
func exact(x api.Tree) string {
	text := ""
	for _, y := range tokens(&x) {
		text += y.node.Leads[y.lead] + y.text
	}
	return text
}

// checkShaped checks what must hold of a tree of the right shape.
func checkShaped(t *testing.T, x api.Tree) {
	t.Helper()
	before := whole(x)
	got, want := layout.Arrange(x), canonical(x)
	if !tree.Same(got, want) {
		t.Fatalf("P4.1: Arrange(%v) is\n%v, not\n%v", x, got, want)
	}
	if same := tree.Same(x, want); layout.Canonical(x) != same {
		t.Fatalf("P4.1: Canonical(%v) is not %t", x, same)
	}
	checkArranged(t, got)
	if !tree.Same(tree.Bare(got), tree.Bare(x)) {
		t.Fatalf("Consequences: Arrange(%v) is %v", x, got)
	}
	checkNew(t, got)
	if !tree.Same(whole(x), before) {
		t.Fatalf("R2: %v is %v now", before, x)
	}
	if again := layout.Arrange(x); !tree.Same(again, want) {
		t.Fatalf("R3: Arrange(%v) is %v the second time", x, again)
	}
}

// checkArranged checks what must hold of a result of Arrange.
func checkArranged(t *testing.T, x api.Tree) {
	t.Helper()
	if !layout.Canonical(x) {
		t.Fatalf("P4.1: %v is not canonical", x)
	}
	if again := layout.Arrange(x); !tree.Same(again, x) {
		t.Fatalf("Consequences: Arrange(%v) is %v", x, again)
	}
	text := syntax.Print(x)
	if text != exact(x) {
		t.Fatalf("Consequences: the text of %v is %q", x, text)
	}
	if l := layout.Comments(x); len(l) != 0 {
		t.Fatalf("Consequences: %v has the comments %q", x, l)
	}
	if x.Kind != api.Module || !syntax.Valid(x) {
		return
	}
	if back, _, e := syntax.Parse(text); e != api.OK || !tree.Same(back, x) {
		t.Fatalf("Consequences: Parse(%q) is %v, error %d", text, back, e)
	}
}

// whole returns a copy of a tree with what lies in spare capacity.
func whole(x api.Tree) api.Tree {
	x.Leads = slices.Clone(x.Leads[:cap(x.Leads)])
	x.Kids = slices.Clone(x.Kids[:cap(x.Kids)])
	for i, k := range x.Kids {
		x.Kids[i] = whole(k)
	}
	return x
}

// slots returns the strings in the slices of a tree and in their spare capacity.
func slots(x *api.Tree) []*string {
	var l []*string
	x.Leads = x.Leads[:cap(x.Leads)]
	for i := range x.Leads {
		l = append(l, &x.Leads[i])
	}
	x.Kids = x.Kids[:cap(x.Kids)]
	for i := range x.Kids {
		l = append(l, &x.Kids[i].Text)
		l = append(l, slots(&x.Kids[i])...)
	}
	return l
}

// checkNew checks that no two slices of a tree share memory, and changes all
// that is in them.
func checkNew(t *testing.T, x api.Tree) {
	t.Helper()
	l := slots(&x)
	for i, s := range l {
		*s = strconv.Itoa(i)
	}
	for i, s := range l {
		if *s != strconv.Itoa(i) {
			t.Fatal("R2: two slices of the result share memory")
		}
	}
}

// checkComments checks the comments of a printable tree.
func checkComments(t *testing.T, x api.Tree) {
	t.Helper()
	before := whole(x)
	if got, want := layout.Comments(x), commentsOf(x); !slices.Equal(got, want) {
		t.Fatalf("P4.2: Comments(%v) is %q, not %q", x, got, want)
	}
	for _, c := range layout.Comments(x) {
		if c[0] != '#' || !lex.Trivia(c+"\n", false) || strings.Contains(c, "\n") {
			t.Fatalf("P4.2: Comments(%v) has %q", x, c)
		}
	}
	if !tree.Same(whole(x), before) {
		t.Fatalf("R2: %v is %v now", before, x)
	}
}

// checkNoShape checks what is told of a tree that has not the right shape.
func checkNoShape(t *testing.T, x api.Tree) {
	t.Helper()
	if syntax.Shaped(x) {
		t.Fatalf("%v has the right shape", x)
	}
	if got := layout.Arrange(x); !tree.Same(got, api.Tree{}) {
		t.Fatalf("P4.1: Arrange(%v) is %v", x, got)
	}
	if layout.Canonical(x) {
		t.Fatalf("P4.1: Canonical(%v) is true", x)
	}
	checkNoComments(t, x)
}

// checkNoComments checks a tree that is not printable.
func checkNoComments(t *testing.T, x api.Tree) {
	t.Helper()
	if l := layout.Comments(x); len(l) != 0 {
		t.Fatalf("P4.2: Comments(%v) is %q, but it is not printable", x, l)
	}
}
