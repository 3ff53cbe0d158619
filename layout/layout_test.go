package layout_test

import (
	"slices"
	"strings"
	"testing"

	"semvcs/api"
	"semvcs/layout"
	"semvcs/syntax"
	"semvcs/tree"
)

func node(kind int, text string, kids ...api.Tree) api.Tree {
	return api.Tree{Kind: kind, Text: text, Kids: kids}
}

// led is a node with leads.
func led(kind int, text string, leads []string, kids ...api.Tree) api.Tree {
	return api.Tree{Kind: kind, Text: text, Leads: leads, Kids: kids}
}

func leads(l ...string) []string { return l }

func parse(t *testing.T, src string) api.Tree {
	t.Helper()
	x, _, e := syntax.Parse(src)
	if e != api.OK {
		t.Fatalf("%q has no tree: error %d", src, e)
	}
	return x
}

// body returns the tree of an expression.
func body(t *testing.T, src string) api.Tree {
	t.Helper()
	m := parse(t, "module M def f(): Int ="+src)
	return m.Kids[0].Kids[1]
}

func TestExamples(t *testing.T) {
	x := parse(t, "module M def f ( a:Int , b :Int ):Int=g(a,[b])")
	if got := syntax.Print(layout.Arrange(x)); got != "module M\n\ndef f(a: Int, b: Int): Int = g(a, [b])\n" {
		t.Errorf("P4.1: %q", got)
	}
	if got := layout.Comments(parse(t, "module M # x\n")); !slices.Equal(got, []string{"# x"}) {
		t.Errorf("P4.2: %q", got)
	}
}

func TestArrangeModules(t *testing.T) {
	for _, x := range [][2]string{
		{"module M", "module M\n"},
		{"# a\nmodule # b\nM # c\n# d", "module M\n"},
		{"\n\n module\tM\r\n\n\n", "module M\n"},
		{"module M type A=Int", "module M\n\ntype A = Int\n"},
		{"module M type A = [ [N.B ] ] type C=A", "module M\n\ntype A = [[N.B]]\n\ntype C = A\n"},
		{"module M def f()  : Bool = true", "module M\n\ndef f(): Bool = true\n"},
		{"module M def f ( x : Int ) : Text = ?", "module M\n\ndef f(x: Int): Text = ?\n"},
		{"module M def f(x:[Int],y:A,z:N.B):[A]=x", "module M\n\ndef f(x: [Int], y: A, z: N.B): [A] = x\n"},
		{"module M def f():Int=1 def g():Int=2 type A=Text # end\n", "module M\n\ndef f(): Int = 1\n\ndef g(): Int = 2\n\ntype A = Text\n"},
	} {
		got := layout.Arrange(parse(t, x[0]))
		if text := syntax.Print(got); text != x[1] {
			t.Errorf("P4.1: %q is arranged as %q, not %q", x[0], text, x[1])
		}
		if want := parse(t, x[1]); !tree.Same(got, want) || !layout.Canonical(want) {
			t.Errorf("P4.1: Arrange of %q is %v, or Canonical of %q is false", x[0], got, x[1])
		}
	}
}

func TestArrangeExpressions(t *testing.T) {
	for _, x := range [][2]string{
		{" # a\n 1", "1"},
		{"\n\"#(\"", `"#("`},
		{" x", "x"},
		{"?", "?"},
		{"1+2-3*x<y==\"\"", `1 + 2 - 3 * x < y == ""`},
		{"( 1 )", "(1)"},
		{"\t( (\n( true ) ) )", "(((true)))"},
		{"(x)+(y)", "(x) + (y)"},
		{"( (x)+( y ) )", "((x) + (y))"},
		{" f ( )", "f()"},
		{"f ( 1,\"(\",(2) ,[ 3 ] )", `f(1, "(", (2), [3])`},
		{"M.f ( f( ),f ( ( f ( ) ) ) )", "M.f(f(), f((f())))"},
		{"f(1+2,(3)*[4],f())", "f(1 + 2, (3) * [4], f())"},
		{"f(if x then 1 else 2,let y=3 in y)", "f(if x then 1 else 2, let y = 3 in y)"},
		{"[ 1 ]", "[1]"},
		{"[ [ 1,2 ],[ (3) ],\"]\" ]", `[[1, 2], [(3)], "]"]`},
		{"[ let x=1 in x,1 ]", "[let x = 1 in x, 1]"},
		{"if(x)then[1]else f(2)", "if (x) then [1] else f(2)"},
		{"if if x then y else true then(1)else if z then 2 else 3", "if if x then y else true then (1) else if z then 2 else 3"},
		{"let x=(1)in[x]", "let x = (1) in [x]"},
		{"let x=let y=1 in y in let z=x in z+1", "let x = let y = 1 in y in let z = x in z + 1"},
		{"f(1) # a\n+g ( 2 )", "f(1) + g(2)"},
	} {
		root := body(t, x[0])
		checkText(t, root, x[1])
		checkText(t, led(api.Arg, "", nil, root), x[1])
		inside := led(api.Func, "f", leads("", "", "", "", "", ""), node(api.TInt, ""), root)
		checkText(t, inside, "def f(): Int = "+x[1])
		checkText(t, node(api.Module, "M", inside, inside), "module M\n\ndef f(): Int = "+x[1]+"\n\ndef f(): Int = "+x[1]+"\n")
	}
}

// TestArrangeParts has the other kinds of nodes as roots.
func TestArrangeParts(t *testing.T) {
	m := parse(t, "\nmodule M\ntype A = [ [ Int ] ]\ndef f ( x : [ B ] ,y:N.B ):Bool=x")
	checkText(t, m.Kids[0], "type A = [[Int]]")
	checkText(t, m.Kids[0].Kids[0], "[[Int]]")
	checkText(t, m.Kids[0].Kids[0].Kids[0].Kids[0], "Int")
	checkText(t, m.Kids[1], "def f(x: [B], y: N.B): Bool = x")
	checkText(t, m.Kids[1].Kids[0], "x: [B]")
	checkText(t, m.Kids[1].Kids[1], "y: N.B")
	checkText(t, m.Kids[1].Kids[1].Kids[0], "N.B")
	checkText(t, m.Kids[1].Kids[2], "Bool")
	checkText(t, node(api.TText, ""), "Text")
}

// checkText checks the text of Arrange of a tree, whose leads may be missing.
func checkText(t *testing.T, x api.Tree, want string) {
	t.Helper()
	if got := exact(layout.Arrange(x)); got != want {
		t.Errorf("P4.1: %v is arranged as %q, not %q", x, got, want)
	}
	checkShaped(t, x)
	checkShaped(t, tree.Bare(x))
}

func TestLeadsOfArrange(t *testing.T) {
	x := tree.Bare(parse(t, "module M def f(x: Int, y: Int, z: Int): Int = g((1), [2, 3], h()) + 4"))
	f := led(api.Func, "f", leads("\n\n", " ", "", "", "", " ", "", ""),
		led(api.Param, "x", leads("", ""), led(api.TInt, "", leads(" "))),
		led(api.Param, "y", leads(" ", ""), led(api.TInt, "", leads(" "))),
		led(api.Param, "z", leads(" ", ""), led(api.TInt, "", leads(" "))),
		led(api.TInt, "", leads(" ")),
		led(api.Bin, "+", leads(" "),
			led(api.Call, "g", leads(" ", "", "", "", ""),
				led(api.Arg, "", nil, led(api.Paren, "", leads("", ""), led(api.Num, "1", leads("")))),
				led(api.Arg, "", nil, led(api.List, "", leads(" ", "", ""), led(api.Num, "2", leads("")), led(api.Num, "3", leads(" ")))),
				led(api.Arg, "", nil, led(api.Call, "h", leads(" ", "", "")))),
			led(api.Num, "4", leads(" "))))
	want := led(api.Module, "M", leads("", " ", "\n"), f)
	if got := layout.Arrange(x); !tree.Same(got, want) {
		t.Errorf("P4.1: Arrange is\n%v, not\n%v", got, want)
	}
	if layout.Canonical(x) || layout.Canonical(f) || !layout.Canonical(want) {
		t.Errorf("P4.1: Canonical is wrong: %t, %t, %t", layout.Canonical(x), layout.Canonical(f), layout.Canonical(want))
	}
	f.Leads[0] = ""
	if !layout.Canonical(f) || layout.Canonical(want) {
		t.Error("P4.1: the first token of a root and the one of a definition of a module are taken for each other")
	}
}

func TestCanonical(t *testing.T) {
	for src, want := range map[string]bool{
		"module M\n":                       true,
		"module M":                         false,
		"module M ":                        false,
		"module M\n\n":                     false,
		"module M#\n":                      false,
		" module M\n":                      false,
		"module  M\n":                      false,
		"module\nM\n":                      false,
		"module M\n\ntype A = Int\n":       true,
		"module M\ntype A = Int\n":         false,
		"module M type A = Int\n":          false,
		"module M\n\n\ntype A = Int\n":     false,
		"module M\n\ntype A = Int":         false,
		"module M\r\n\r\ntype A = Int\r\n": false,
		"module M\n\ntype A= Int\n":        false,
		"module M\n\ntype A =Int\n":        false,
		"module M\n\ndef f(x: [A], y: B): Bool = f(x)\n":   true,
		"module M\n\ndef f(x: [A], y: B): Bool = f(x) \n":  false,
		"module M\n\ndef f(x: [A], y: B): Bool = f( x)\n":  false,
		"module M\n\ndef f(x: [A], y: B): Bool = f(x )\n":  false,
		"module M\n\ndef f(x: [A], y: B): Bool = f (x)\n":  false,
		"module M\n\ndef f(x: [A], y: B): Bool =f(x)\n":    false,
		"module M\n\ndef f(x: [A], y: B) : Bool = f(x)\n":  false,
		"module M\n\ndef f(x: [A], y: B ): Bool = f(x)\n":  false,
		"module M\n\ndef f(x: [A],y: B): Bool = f(x)\n":    false,
		"module M\n\ndef f(x: [A] , y: B): Bool = f(x)\n":  false,
		"module M\n\ndef f(x: [A ], y: B): Bool = f(x)\n":  false,
		"module M\n\ndef f(x: [ A], y: B): Bool = f(x)\n":  false,
		"module M\n\ndef f(x: [A], y:B): Bool = f(x)\n":    false,
		"module M\n\ndef f(x : [A], y: B): Bool = f(x)\n":  false,
		"module M\n\ndef f( x: [A], y: B): Bool = f(x)\n":  false,
		"module M\n\ndef f (x: [A], y: B): Bool = f(x)\n":  false,
		"module M\n\ndef f(x: [A], y: B): Bool = f(x)#a\n": false,
	} {
		if got := layout.Canonical(parse(t, src)); got != want {
			t.Errorf("P4.1: Canonical of %q is %t", src, got)
		}
	}
}

func TestComments(t *testing.T) {
	for _, x := range []struct {
		src  string
		want []string
	}{
		{"module M", nil},
		{"module M\n\t\r ", nil},
		{"module M #", leads("#")},
		{"module M # x", leads("# x")},
		{"module M # x\n# y", leads("# x", "# y")},
		{"#1\nmodule#2\nM#3\n", leads("#1", "#2", "#3")},
		{"module M#\n#\n\n #\n", leads("#", "#", "#")},
		{"module M##a # b\n", leads("##a # b")},
		{"module M # x\r\n # y \t\n", leads("# x\r", "# y \t")},
		{"module M # \"x\n# y\" (\n", leads("# \"x", "# y\" (")},
		{`module M def f(): Text = "#" # "` + "\n", leads(`# "`)},
		{`module M def f(): [Text] = ["a # b", "", "##", "'" # c` + "\n]", leads("# c")},
		{"module M type#1\nA#2\n=#3\n[#4\nInt#5\n]#6", leads("#1", "#2", "#3", "#4", "#5", "#6")},
		{"module M def#1\nf#2\n(#3\nx#4\n:#5\nA#6\n,#7\ny:B#8\n,z:C#9\n)#10\n:#11\nInt#12\n=#13\n1", leads("#1", "#2", "#3", "#4", "#5", "#6", "#7", "#8", "#9", "#10", "#11", "#12", "#13")},
		{"module M def f():Int=f#1\n(#2\n1#3\n,#4\n2#5\n,[#6\n3#7\n,#8\n4#9\n]#10\n)#11", leads("#1", "#2", "#3", "#4", "#5", "#6", "#7", "#8", "#9", "#10", "#11")},
		{"module M def f():Int=#1\nif#2\n(#3\nx#4\n)#5\nthen#6\n1#7\n+#8\n2#9\nelse#10\nlet#11\ny#12\n=#13\n3#14\nin#15\n?#16", leads("#1", "#2", "#3", "#4", "#5", "#6", "#7", "#8", "#9", "#10", "#11", "#12", "#13", "#14", "#15", "#16")},
	} {
		if got := layout.Comments(parse(t, x.src)); !slices.Equal(got, x.want) {
			t.Errorf("P4.2: Comments of %q is %q, not %q", x.src, got, x.want)
		}
		checkComments(t, parse(t, x.src))
	}
}

func TestCommentsOfParts(t *testing.T) {
	x := body(t, "# a\nf(1 # b\n) + # c\n[2, 3 # d\n, 4] # e\n")
	if got := layout.Comments(x); !slices.Equal(got, leads("# a", "# b", "# c", "# d")) {
		t.Errorf("P4.2: Comments is %q", got)
	}
	if got := layout.Comments(x.Kids[0].Kids[0]); len(got) != 0 {
		t.Errorf("P4.2: Comments of the argument is %q", got)
	}
	if got := layout.Comments(x.Kids[1]); !slices.Equal(got, leads("# c", "# d")) {
		t.Errorf("P4.2: Comments of the list is %q", got)
	}
	// No blank of the text (P2.5) is in a lead or a comment.
	y := led(api.If, "", leads("#a\n", "", "#b\n"), led(api.True, "", leads("")), led(api.Num, "1", leads("")), led(api.Num, "2", leads("")))
	if got := layout.Comments(y); !slices.Equal(got, leads("#a", "#b")) {
		t.Errorf("P4.2: Comments is %q", got)
	}
}

func TestCommentsOfTreesThatAreNotPrintable(t *testing.T) {
	for _, l := range [][]string{
		nil,
		leads("#a\n"),
		leads("#a\n", "#b\n"),
		leads("#a\n", "#b\n", "#c\n", ""),
		leads("#a\n", "#b\n", "x"),
		leads("#a", "#b\n", "#c"),
		leads("#a\n", "#b", "#c"),
		leads("#a\n", "#b\n", "#c\x00"),
		leads("#a\n", "#b\x80\n", ""),
		leads("\v#a\n", "", ""),
	} {
		x := led(api.Module, "M", l)
		checkShaped(t, x)
		checkNoComments(t, x)
	}
	x := led(api.Paren, "", leads("#a\n", "#b"), led(api.Num, "1", leads("")))
	checkNoComments(t, x) // only the end of a file may end with an open comment
	x.Leads[1] = "#b\n"
	checkComments(t, x)
	x.Kids[0].Leads[0] = "#"
	checkNoComments(t, x)
	x.Kids[0].Leads = nil
	checkNoComments(t, x)
	checkShaped(t, x)
}

func TestTreesWithoutShape(t *testing.T) {
	one := led(api.Num, "1", leads("#a\n"))
	sum := led(api.Bin, "+", leads(" "), one, one)
	for _, x := range []api.Tree{
		{},
		{Kind: -1},
		{Kind: api.Paren + 1, Leads: leads("#a\n")},
		led(api.Num, "01", leads("#a\n")),
		led(api.Num, "", leads("#a\n")),
		led(api.Num, strings.Repeat("1", api.MaxDigits+1), leads("")),
		led(api.Num, "1", leads("#a\n"), one),
		led(api.Var, "let", leads("#a\n")),
		led(api.Var, strings.Repeat("x", api.MaxName+1), leads("")),
		led(api.Str, `"`, leads("")),
		led(api.Hole, "?", leads("")),
		led(api.True, "true", leads("")),
		led(api.Module, "m", leads("", " ", "#a\n")),
		led(api.Module, "M", leads("", " ", "\n"), one),
		led(api.Module, "M", leads("", " ", "\n"), led(api.Module, "N", leads("", " ", "\n"))),
		led(api.Func, "f", leads("", " ", "", "", "", " "), led(api.TInt, "", leads(" "))),
		led(api.Func, "f", leads("", " ", "", "", "", " "), one, led(api.TInt, "", leads(" "))),
		led(api.TList, "", leads("", ""), one),
		led(api.Call, "f", leads("", "", ""), one),
		led(api.Arg, "", nil),
		led(api.Arg, "", nil, led(api.Arg, "", nil, one)),
		led(api.List, "", leads("", "")),
		led(api.If, "", leads("", " ", " "), one, one),
		led(api.Let, "x", leads("", " ", " ", " "), one),
		led(api.Let, "X", leads("", " ", " ", " "), one, one),
		led(api.Bin, "=", leads(" "), one, one),
		led(api.Bin, "+", leads(" "), one, sum),
		led(api.Bin, "+", leads(" "), led(api.If, "", leads("", " ", " "), one, one, one), one),
		led(api.Paren, "", leads("", ""), sum, one),
		led(api.Paren, "", leads("#b\n", ""), led(api.Paren, "", leads("", ""), led(api.Num, "x", leads("#a\n")))),
	} {
		checkNoShape(t, x)
		checkNoShape(t, clone(x))
		checkNoShape(t, led(api.Paren, "", leads("#b\n", ""), led(api.List, "", leads("", "", ""), one, x)))
	}
}
