package layout_test

import (
	"slices"
	"strings"
	"testing"

	"semvcs/api"
	"semvcs/layout"
	"semvcs/syntax"
	"semvcs/tree"
)

// TestBeyondLimits has trees of the right shape that are not valid, for limits
// do not matter here.
func TestBeyondLimits(t *testing.T) {
	one := led(api.Num, "1", leads("#1\n"))
	argument := node(api.Arg, "", one)
	parameter := node(api.Param, "x", node(api.TInt, ""))
	deep := one
	for range api.MaxDepth {
		deep = led(api.Paren, "", leads("#(\n", "#)\n"), deep)
	}
	functions := func(n int, kids ...api.Tree) api.Tree {
		return node(api.Module, "M", slices.Repeat([]api.Tree{node(api.Func, "f", kids...)}, n)...)
	}
	for _, x := range []api.Tree{
		node(api.Call, "f", slices.Repeat([]api.Tree{argument}, api.MaxParams+1)...),
		node(api.List, "", slices.Repeat([]api.Tree{one}, api.MaxLeads+1)...),
		node(api.Func, "f", append(slices.Repeat([]api.Tree{parameter}, api.MaxParams+1), node(api.TInt, ""), one)...),
		functions(api.MaxDefs+1, node(api.TInt, ""), one),
		functions(3, slices.Concat(slices.Repeat([]api.Tree{parameter}, 2*api.MaxParams), []api.Tree{node(api.TBool, ""), one})...),
		node(api.Paren, "", deep),
	} {
		checkShaped(t, x)
		for _, n := range nodes(&x) {
			n.Leads = slices.Repeat(leads("#a\n #\n"), syntax.Leads(n.Kind, len(n.Kids)))
		}
		if syntax.Valid(x) {
			t.Fatalf("%v is valid", x)
		}
		checkShaped(t, x)
		checkComments(t, x)
	}
}

func TestLongTexts(t *testing.T) {
	comment := "#" + strings.Repeat(`"`, 2*api.MaxFile)
	x := led(api.Module, "M", leads("", comment+"\n", "\n"+comment))
	if got := layout.Comments(x); !slices.Equal(got, leads(comment, comment)) {
		t.Errorf("P4.2: %d comments", len(got))
	}
	checkShaped(t, x)
	// ( and the string fuse (P1.5), so a blank is written, but not into the lead.
	long := `"` + strings.Repeat("#", api.MaxFile-2) + `"`
	y := led(api.Paren, "", leads("", "#\n"), led(api.Str, long, leads("# a\n")))
	got := layout.Arrange(y)
	if !tree.Same(got, led(api.Paren, "", leads("", ""), led(api.Str, long, leads("")))) || !layout.Canonical(got) {
		t.Error("P4.1: Arrange of a long string is wrong")
	}
	if syntax.Print(got) != "( "+long+" )" {
		t.Error("Consequences: the text of a long string is wrong")
	}
	if l := layout.Comments(got); len(l) != 0 {
		t.Errorf("P4.2: the long string has %d comments", len(l))
	}
	if l := layout.Comments(y); !slices.Equal(l, leads("# a", "#")) {
		t.Errorf("P4.2: Comments is %q", l)
	}
}

// grown returns last with so many nodes around it, each made of the one in it.
func grown(levels int, last api.Tree, around func(api.Tree) api.Tree) api.Tree {
	for range levels {
		last = around(last)
	}
	return last
}

// TestDeepTrees has as many levels as rule R10 allows.
func TestDeepTrees(t *testing.T) {
	const levels = 1<<16 - 1
	one := led(api.Num, "1", leads("#a\n"))
	for _, around := range []func(lead string) func(api.Tree) api.Tree{
		func(lead string) func(api.Tree) api.Tree {
			return func(x api.Tree) api.Tree { return led(api.Paren, "", leads("", lead), x) }
		},
		func(lead string) func(api.Tree) api.Tree {
			return func(x api.Tree) api.Tree {
				return led(api.Bin, "+", leads(" "+lead), x, led(api.Num, "2", leads(" ")))
			}
		},
	} {
		x := grown(levels, one, around("# b\n"))
		want := grown(levels, led(api.Num, "1", leads("")), around(""))
		if got := layout.Arrange(x); !tree.Same(got, want) {
			t.Error("P4.1: Arrange is wrong")
		}
		if layout.Canonical(x) || !layout.Canonical(want) {
			t.Error("P4.1: Canonical is wrong")
		}
		if got := layout.Comments(x); len(got) != levels+1 || got[0] != "#a" || got[1] != "# b" || got[levels] != "# b" {
			t.Errorf("P4.2: %d comments", len(got))
		}
		x = grown(levels, led(api.Num, "1", leads("#a")), around("# b\n"))
		checkNoComments(t, x)
		x = grown(levels, api.Tree{}, around("# b\n"))
		checkNoShape(t, x)
	}
}

func TestWideTrees(t *testing.T) {
	const kids = 1 << 16
	x := node(api.List, "", slices.Repeat([]api.Tree{led(api.Num, "1", leads("#a\n"))}, kids)...)
	x.Leads = append(leads("#b\n", "#c\n"), slices.Repeat(leads("#d\n"), kids-1)...)
	got := layout.Arrange(x)
	if len(got.Leads) != kids+1 || len(got.Kids) != kids || strings.Join(got.Leads, "") != "" {
		t.Error("P4.1: Arrange of a wide list is wrong")
	}
	for i, k := range got.Kids {
		if len(k.Leads) != 1 || (k.Leads[0] == " ") != (i > 0) {
			t.Fatalf("P4.1: item %d has the leads %q", i, k.Leads)
		}
	}
	l := layout.Comments(x)
	if len(l) != 2*kids+1 || l[0] != "#b" || l[1] != "#a" || l[2] != "#d" || l[2*kids-1] != "#a" || l[2*kids] != "#c" {
		t.Errorf("P4.2: %d comments", len(l))
	}
}

// TestSharedArguments has one slice at several places of an argument.
func TestSharedArguments(t *testing.T) {
	l := append(leads(), "#a\n", "", "#b\n", "spare")[:3]
	kids := append([]api.Tree{}, led(api.Num, "1", l[:1]), led(api.Var, "x", l[:1]), led(api.Hole, "spare", nil))[:2]
	list := led(api.List, "", l, kids...)
	x := led(api.List, "", l, led(api.Paren, "", l[:2], list), list)
	checkShaped(t, x)
	checkComments(t, x)
	checkShaped(t, list)
	checkComments(t, list)
}

// TestResultsAreTheCallers changes results; later results must not change.
func TestResultsAreTheCallers(t *testing.T) {
	x := led(api.Module, "M", leads("#a\n", "#b\n", "#c"))
	for range 3 {
		y := layout.Arrange(x)
		if !tree.Same(y, led(api.Module, "M", leads("", " ", "\n"))) {
			t.Errorf("R3: Arrange is %v", y)
		}
		clear(y.Leads)
		l := layout.Comments(x)
		if !slices.Equal(l, leads("#a", "#b", "#c")) {
			t.Errorf("R3: Comments is %q", l)
		}
		clear(l)
	}
}
