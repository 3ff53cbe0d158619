package syntax_test

import (
	"fmt"
	"slices"
	"strings"
	"testing"

	"semvcs/api"
	"semvcs/syntax"
)

func checkPrint(t *testing.T, tree api.Tree, want string) {
	t.Helper()
	before := clone(tree)
	if got := syntax.Print(tree); got != want {
		t.Errorf("P2.5: Print(%.300s) is %.300q, not %.300q", fmt.Sprint(tree), got, want)
	}
	if !same(tree, before) {
		t.Errorf("R2: Print has changed %v", before)
	}
}

// tight are the texts of samples with empty leads.
func tight() map[int]string {
	return map[int]string{
		api.Module: "module M def f():Int=1type A=Int",
		api.Func:   "def f(x:Int,x:Int):Int=1+x",
		api.Alias:  "type A=Int",
		api.Param:  "x:Int",
		api.TInt:   "Int",
		api.TText:  "Text",
		api.TBool:  "Bool",
		api.TList:  "[Int]",
		api.TName:  "A",
		api.Num:    "1",
		api.Str:    `"a"`,
		api.Var:    "x",
		api.True:   "true",
		api.False:  "false",
		api.Hole:   "?",
		api.Call:   "f(1,1)",
		api.Arg:    "1",
		api.List:   "[1,x]",
		api.If:     "if true then 1else x",
		api.Let:    "let x=1in x",
		api.Bin:    "1+x",
		api.Paren:  "(1)",
	}
}

func TestPrintOfEachKind(t *testing.T) {
	for kind, sample := range samples() {
		checkPrint(t, empty(sample), tight()[kind])
	}
	question := empty(bare(api.If, "", bare(api.True, ""), num1, bare(api.Num, "2")))
	checkPrint(t, question, "if true then 1else 2")
}

// lead gives the nodes of t, in preorder, leads that tell their own numbers.
func lead(t *api.Tree, next *int) {
	for i := range t.Leads {
		t.Leads[i] = comment(*next)
		*next++
	}
	for i := range t.Kids {
		lead(&t.Kids[i], next)
	}
}

func TestPrintOfLeads(t *testing.T) {
	for kind, want := range map[int]string{
		api.Module: "#0\nmodule#1\nM#3\ndef#4\nf#5\n(#6\n)#7\n:#9\nInt#8\n=#10\n1#11\ntype#12\nA#13\n=#14\nInt#2\n",
		api.Func:   "#0\ndef#1\nf#2\n(#7\nx#8\n:#9\nInt#6\n,#10\nx#11\n:#12\nInt#3\n)#4\n:#13\nInt#5\n=#15\n1#14\n+#16\nx",
		api.Alias:  "#0\ntype#1\nA#2\n=#3\nInt",
		api.Param:  "#0\nx#1\n:#2\nInt",
		api.TInt:   "#0\nInt",
		api.TList:  "#0\n[#2\nInt#1\n]",
		api.Call:   "#0\nf#1\n(#4\n1#3\n,#5\n1#2\n)",
		api.Arg:    "#0\n1",
		api.List:   "#0\n[#3\n1#2\n,#4\nx#1\n]",
		api.If:     "#0\nif#3\ntrue#1\nthen#4\n1#2\nelse#5\nx",
		api.Let:    "#0\nlet#1\nx#2\n=#4\n1#3\nin#5\nx",
		api.Bin:    "#1\n1#0\n+#2\nx",
		api.Paren:  "#0\n(#2\n1#1\n)",
	} {
		tree := empty(samples()[kind])
		lead(&tree, new(int))
		checkPrint(t, tree, want)
	}
	call := empty(bare(api.Call, "M.f", arg, arg, arg))
	lead(&call, new(int))
	checkPrint(t, call, "#0\nM.f#1\n(#5\n1#3\n,#6\n1#4\n,#7\n1#2\n)")
	checkPrint(t, empty(bare(api.Module, "M")), "module M")
	checkPrint(t, empty(bare(api.Call, "f")), "f()")
	end := api.Tree{Kind: api.Module, Text: "M", Leads: []string{" ", "\t", "#end"}}
	checkPrint(t, end, " module\tM#end")
}

func TestPrintOfFusedTokens(t *testing.T) {
	name := func(text string) api.Tree { return bare(api.Var, text) }
	for _, x := range []struct {
		tree api.Tree
		want string
	}{
		{bare(api.Let, "x", name("y"), name("z")), "let x=y in z"},
		{bare(api.Let, "x", num1, num1), "let x=1in 1"},
		{bare(api.Let, "x", bare(api.Str, `"a"`), bare(api.Str, `"b"`)), `let x="a"in"b"`},
		{bare(api.Let, "x", bare(api.Paren, "", name("y")), bare(api.Paren, "", name("z"))), "let x=(y)in(z)"},
		{bare(api.If, "", name("a"), name("b"), name("c")), "if a then b else c"},
		{bare(api.If, "", bare(api.Hole, ""), bare(api.Hole, ""), bare(api.Hole, "")), "if?then?else?"},
		{bare(api.If, "", bare(api.Call, "f"), bare(api.Call, "M.f"), bare(api.List, "", num1)), "if f()then M.f()else[1]"},
		{bare(api.Bin, "==", num1, num1), "1==1"},
		{bare(api.Bin, "-", bare(api.Bin, "<", name("a"), num1), name("b")), "a<1-b"},
		{bare(api.Func, "f", bare(api.TName, "M.T"), name("x")), "def f():M.T=x"},
		{bare(api.Module, "M", alias, alias, bare(api.Alias, "B", bare(api.TList, "", tInt)), alias), "module M type A=Int type A=Int type B=[Int]type A=Int"},
		{bare(api.Module, "M", bare(api.Func, "f", tInt, bare(api.True, "")), fun), "module M def f():Int=true def f():Int=1"},
	} {
		checkPrint(t, empty(x.tree), x.want)
	}
	spaced := empty(bare(api.Let, "x", name("y"), name("z")))
	spaced.Leads = []string{"", "\n", "", "#\n"}
	checkPrint(t, spaced, "let\nx=y#\nin z")
	spaced.Kids[1].Leads[0] = "\t"
	checkPrint(t, spaced, "let\nx=y#\nin\tz")
	// tokens that are together too long for a source fuse too
	long := `"` + strings.Repeat("a", api.MaxFile-3) + `"`
	checkPrint(t, empty(bare(api.Paren, "", bare(api.Str, long))), "("+long+")")
	checkPrint(t, empty(bare(api.Bin, "==", bare(api.Str, long), num1)), long+" ==1")
	longer := `"` + strings.Repeat("a", api.MaxFile-2) + `"`
	checkPrint(t, empty(bare(api.Paren, "", bare(api.Str, longer))), "( "+longer+" )")
}

func TestPrintHasNoLimits(t *testing.T) {
	for i, tree := range largest() {
		if syntax.Print(empty(tree)) == "" {
			t.Errorf("P2.5: the %d-th tree has no text", i)
		}
	}
	checkPrint(t, empty(bare(api.Call, "f", times(api.MaxParams+1, arg)...)), "f(1,1,1,1,1,1,1,1,1)")
	spaces := strings.Repeat(" ", api.MaxFile+1)
	checkPrint(t, api.Tree{Kind: api.Hole, Leads: []string{spaces}}, spaces+"?")
}

// unprintable calls f with trees that have the right shape, but wrong leads.
func unprintable(f func(api.Tree)) {
	for kind, sample := range samples() {
		good := empty(sample)
		more := clone(good)
		more.Leads = append(more.Leads, "")
		f(more)
		if len(good.Leads) > 0 {
			less := clone(good)
			less.Leads = less.Leads[1:]
			f(less)
			none := clone(good)
			none.Leads = nil
			f(none)
		}
		for i := range good.Leads {
			wrong := []string{"x", "\x00", "\v", "#\x00\n", "#\xc3\xa4\n", " x ", ",", "\u00a0"}
			if kind != api.Module || i != 2 {
				wrong = append(wrong, "#", "#a", " #a\n#")
			}
			for _, lead := range wrong {
				tree := clone(good)
				tree.Leads[i] = lead
				f(tree)
			}
		}
		for i, kid := range good.Kids {
			tree := clone(good)
			tree.Kids[i].Leads = append(kid.Leads, " ")
			f(tree)
		}
	}
}

func TestUnprintable(t *testing.T) {
	unprintable(func(tree api.Tree) {
		checkShaped(t, tree, true)
		checkPrint(t, tree, "")
		if syntax.Valid(tree) {
			t.Errorf("P2.4: Valid(%v)", tree)
		}
		if expression := slices.Contains(expressions, tree.Kind); expression {
			checkPrint(t, bare(api.Arg, "", tree), "")
		}
	})
	for _, tree := range []api.Tree{{}, bare(0, "x"), bare(-1, ""), bare(api.Paren+1, ""), empty(bare(api.List, "")), empty(bare(api.Bin, "=", num1, num1)), empty(bare(api.Paren, "", bare(api.Arg, "", num1))), empty(bare(api.Bin, "+", num1, sum)), empty(bare(api.Var, "X")), empty(bare(api.Var, ""))} {
		checkPrint(t, tree, "")
		if syntax.Valid(tree) {
			t.Errorf("P2.4: Valid(%v)", tree)
		}
	}
}

func TestLeadsThatAreTrivia(t *testing.T) {
	for _, sample := range samples() {
		for i := range empty(sample).Leads {
			for _, trivia := range []string{" ", "\t\r\n", "#\n", " # a \"\\~#\n\n#b\n "} {
				tree := empty(sample)
				tree.Leads[i] = trivia
				if text := syntax.Print(tree); !strings.Contains(text, trivia) || !syntax.Valid(tree) {
					t.Errorf("P2.4: %q as the lead %d of %v: %q", trivia, i, tree, text)
				}
			}
		}
	}
	for _, end := range []string{"#", "#a", "\n#a", "#a\n#b"} {
		tree := empty(samples()[api.Module])
		tree.Leads[2] = end
		if !strings.HasSuffix(syntax.Print(tree), end) || !syntax.Valid(tree) {
			t.Errorf("P2.4: the end %q", end)
		}
	}
}

func checkValid(t *testing.T, tree api.Tree, want bool) {
	t.Helper()
	before := clone(tree)
	if got := syntax.Valid(tree); got != want {
		t.Errorf("P2.4: Valid(%.300s) is %t", fmt.Sprint(tree), got)
	}
	if !same(tree, before) {
		t.Errorf("R2: Valid has changed %v", before)
	}
}

func TestValidSamples(t *testing.T) {
	for _, sample := range samples() {
		checkValid(t, empty(sample), true)
		checkValid(t, sample, false) // without leads
	}
	for _, tree := range largest() {
		checkValid(t, empty(tree), false)
	}
}

func TestValidCounts(t *testing.T) {
	lists := map[int]func(n int) api.Tree{
		api.MaxDefs:  func(n int) api.Tree { return bare(api.Module, "M", times(n, fun)...) },
		api.MaxItems: func(n int) api.Tree { return in(bare(api.List, "", times(n, num1)...)) },
		api.MaxParams: func(n int) api.Tree {
			return bare(api.Module, "M", bare(api.Func, "f", append(times(n, param), tInt, num1)...))
		},
		-api.MaxParams: func(n int) api.Tree { return in(bare(api.Call, "f", times(n, arg)...)) },
	}
	for most, list := range lists {
		for n := 1; n <= 2*max(most, -most); n++ {
			tree := empty(list(n))
			checkShaped(t, tree, true)
			checkValid(t, tree, n <= max(most, -most))
		}
	}
	full := bare(api.Call, "f", times(api.MaxParams, arg)...)
	items := bare(api.List, "", times(api.MaxItems, num1)...)
	params := append(times(api.MaxParams, param), tInt, bare(api.Bin, "+", full, items))
	checkValid(t, empty(bare(api.Func, "f", params...)), true)
	// of a kind that has no limit, none holds
	checkValid(t, empty(bare(api.Module, "M", times(api.MaxItems+1, alias)...)), true)
	checkValid(t, empty(bare(api.List, "", times(api.MaxParams+1, num1)...)), true)
	// within the tree, too
	within := bare(api.Paren, "", bare(api.Call, "f", bare(api.Arg, "", bare(api.Call, "g", times(api.MaxParams+1, arg)...))))
	checkValid(t, empty(within), false)
}

func TestValidDepth(t *testing.T) {
	chains := map[string]struct {
		last api.Tree
		more func(api.Tree) api.Tree
	}{
		"parentheses": {num1, func(t api.Tree) api.Tree { return bare(api.Paren, "", t) }},
		"first":       {num1, func(t api.Tree) api.Tree { return bare(api.Bin, "+", t, num1) }},
		"last":        {num1, func(t api.Tree) api.Tree { return bare(api.Let, "x", num1, t) }},
		"lists":       {tInt, func(t api.Tree) api.Tree { return bare(api.TList, "", t) }},
		"items":       {num1, func(t api.Tree) api.Tree { return bare(api.List, "", num1, t, num1) }},
	}
	for name, x := range chains {
		tree := x.last
		for levels := 1; levels < 2*api.MaxDepth; levels++ {
			if got := syntax.Valid(empty(tree)); got != (levels <= api.MaxDepth) {
				t.Errorf("P2.4: %s with %d levels: %t", name, levels, got)
			}
			tree = x.more(tree)
		}
	}
	tree := num1
	for range api.MaxDepth - 3 {
		tree = bare(api.Paren, "", tree)
	}
	checkValid(t, empty(in(tree)), true)
	checkValid(t, empty(in(bare(api.Paren, "", tree))), false)
}

func TestValidLength(t *testing.T) {
	spaces := func(n int) []string { return []string{strings.Repeat(" ", n)} }
	checkValid(t, api.Tree{Kind: api.Hole, Leads: spaces(api.MaxFile - 1)}, true)
	checkValid(t, api.Tree{Kind: api.Hole, Leads: spaces(api.MaxFile)}, false)
	checkValid(t, empty(bare(api.Str, `"`+strings.Repeat("a", api.MaxFile-2)+`"`)), true)
	checkValid(t, empty(bare(api.Str, `"`+strings.Repeat("a", api.MaxFile-1)+`"`)), false)
	tree := empty(bare(api.Module, "M"))
	for _, i := range []int{0, 2} {
		tree := clone(tree)
		tree.Leads[i] = strings.Repeat("\n", api.MaxFile-len("module M"))
		checkValid(t, tree, true)
		tree.Leads[i] += "\n"
		checkValid(t, tree, false)
	}
	// blanks that are written count
	tree = empty(bare(api.Let, "x", num1, varX))
	tree.Leads[0] = strings.Repeat("\n", api.MaxFile-len("let x=1in x"))
	checkValid(t, tree, true)
	tree.Leads[3] = " "
	checkValid(t, tree, false)
}
