package syntax_test

import (
	"fmt"
	"math/rand"
	"slices"
	"strings"
	"testing"

	"semvcs/api"
	"semvcs/lex"
	"semvcs/syntax"
)

// layouts are the texts of the kinds as the grammar has them: @ is the text of
// the node, % a kid, %, kids with commas between them, and %% all others.
func layouts() map[int]string {
	return map[int]string{
		api.Module: "module @ %% end",
		api.Func:   "def @ ( %, ) : % = %",
		api.Alias:  "type @ = %",
		api.Param:  "@ : %",
		api.TInt:   "Int",
		api.TText:  "Text",
		api.TBool:  "Bool",
		api.TList:  "[ % ]",
		api.TName:  "@",
		api.Num:    "@",
		api.Str:    "@",
		api.Var:    "@",
		api.True:   "true",
		api.False:  "false",
		api.Hole:   "?",
		api.Call:   "@ ( %, )",
		api.Arg:    "%",
		api.List:   "[ %, ]",
		api.If:     "if % then % else %",
		api.Let:    "let @ = % in %",
		api.Bin:    "% @ %",
		api.Paren:  "( % )",
	}
}

// token is a token of a tree, with the place of its lead in the tree.
type token struct {
	lead *string
	text string
}

// flat returns the tokens of a tree in the order of the grammar.
func flat(layouts map[int]string, t api.Tree) []token {
	var l []token
	pieces := strings.Fields(layouts[t.Kind])
	own := 0
	for _, piece := range pieces {
		if piece[0] != '%' {
			own++
		}
	}
	comma, next, kid := own, 0, 0
	for i, piece := range pieces {
		after := strings.Count(strings.Join(pieces[i+1:], " "), "%")
		switch piece {
		case "%":
			l = append(l, flat(layouts, t.Kids[kid])...)
			kid++
			continue
		case "%,", "%%":
			for first := true; kid < len(t.Kids)-after; kid++ {
				if !first && piece == "%," {
					l = append(l, token{&t.Leads[comma], ","})
					comma++
				}
				l = append(l, flat(layouts, t.Kids[kid])...)
				first = false
			}
			continue
		case "@":
			piece = t.Text
		case "end":
			piece = ""
		}
		l = append(l, token{&t.Leads[next], piece})
		next++
	}
	return l
}

// spaced returns t with the blanks that its text needs, and the text.
func spaced(t api.Tree) (api.Tree, string) {
	t = clone(t)
	text, last := "", ""
	for _, x := range flat(layouts(), t) {
		if *x.lead == "" && lex.Fuses(last, x.text) {
			*x.lead = " "
		}
		text += *x.lead + x.text
		last = x.text
	}
	return t, text
}

// grower makes random trees.
type grower struct {
	*rand.Rand
}

func (g grower) pick(l []int) int {
	return l[g.Intn(len(l))]
}

func (g grower) name(texts string) string {
	l := strings.Fields(texts)
	return l[g.Intn(len(l))]
}

// text is a random text for a node of this kind.
func (g grower) text(kind int) string {
	switch kind {
	case api.Module, api.Alias:
		return g.name("M N A_1 " + strings.Repeat("B", api.MaxName))
	case api.Func, api.Param, api.Var, api.Let:
		return g.name("f x y1 z_ " + strings.Repeat("w", api.MaxName))
	case api.TName:
		return g.name("A B M.A N.B_2")
	case api.Call:
		return g.name("f g M.f N.x")
	case api.Num:
		return g.name("0 1 42 999999999999999")
	case api.Str:
		return g.name(`"" "a" "#x" "'~"`)
	case api.Bin:
		return g.name("+ - * < ==")
	}
	return ""
}

func (g grower) lead(end bool) string {
	l := []string{"", "", "", "", " ", "\n", "\t\r\n ", "#\n", " # a \"#\n", "#a\n#b\n  "}
	if end {
		l = append(l, "#", " #a", "#a\n#")
	}
	return l[g.Intn(len(l))]
}

// tree is a random tree of one of these kinds with at most so many levels.
func (g grower) tree(kinds []int, levels int) api.Tree {
	if levels <= 1 {
		leaves := []int{}
		for _, k := range kinds {
			if len(samples()[k].Kids) == 0 {
				leaves = append(leaves, k)
			}
		}
		if len(leaves) > 0 {
			kinds = leaves
		}
	}
	t := api.Tree{Kind: g.pick(kinds)}
	t.Text = g.text(t.Kind)
	table := kidKinds()[t.Kind]
	switch t.Kind {
	case api.Module, api.Call:
		table = slices.Repeat(table[:1], g.Intn(4))
	case api.List:
		table = slices.Repeat(table[:1], 1+g.Intn(4))
	case api.Func:
		table = append(slices.Repeat(table[:1], g.Intn(4)), table[2:]...)
	}
	for _, kinds := range table {
		t.Kids = append(t.Kids, g.tree(kinds, levels-1))
	}
	own := empty(t).Leads
	for i := range own {
		own[i] = g.lead(t.Kind == api.Module && i == 2)
	}
	t.Leads = own
	return t
}

func TestRandomTrees(t *testing.T) {
	g := grower{Rand: rand.New(rand.NewSource(3))}
	roots := []int{api.Module, api.Module, api.Module, api.Func, api.Alias, api.Param, api.TList, api.Call, api.Arg, api.List, api.If, api.Let, api.Bin, api.Paren}
	for range 3000 {
		tree := g.tree([]int{g.pick(roots)}, 1+g.Intn(7))
		want, text := spaced(tree)
		checkShaped(t, tree, true)
		checkPrint(t, tree, text)
		checkPrint(t, want, text)
		checkValid(t, tree, len(text) <= api.MaxFile)
		if tree.Kind != api.Module || len(text) > api.MaxFile {
			continue
		}
		if got := mustParse(t, text); !same(got, want) {
			t.Fatalf("Consequences: Parse(%q) is\n%v, not\n%v", text, got, want)
		}
	}
}

// checkSource checks what must hold of what Parse says of any source.
func checkSource(t *testing.T, src string) {
	t.Helper()
	tree, at, e := syntax.Parse(src)
	switch e {
	case api.OK:
		if at != 0 || tree.Kind != api.Module || !syntax.Shaped(tree) || !syntax.Valid(tree) || syntax.Print(tree) != src {
			t.Fatalf("Consequences: Parse(%q) is %v, and the text of that %q", src, tree, syntax.Print(tree))
		}
		if want, text := spaced(tree); text != src || !same(want, tree) {
			t.Fatalf("Consequences: the text of %v is %q", tree, src)
		}
	case api.ErrByte, api.ErrSyntax, api.ErrLong, api.ErrDeep:
		if !same(tree, api.Tree{}) || at < 0 || at > len(src) || e == api.ErrDeep && at != 0 {
			t.Fatalf("P2.2: Parse(%q): %v, error %d at %d", src, tree, e, at)
		}
	default:
		t.Fatalf("P2.2: Parse(%q): error %d", src, e)
	}
	if _, _, at2, e2 := lex.Scan(src); e2 != api.OK && (at != at2 || e != e2) {
		t.Fatalf("P2.2: Parse(%q): error %d at %d, but Scan gives %d at %d", src, e, at, e2, at2)
	}
}

func TestRandomBytes(t *testing.T) {
	g := grower{Rand: rand.New(rand.NewSource(4))}
	bytes := "aM01 \n#\"()[]:,=+-*<?._\\\x00\xff"
	good := 0
	for range 1000 {
		_, src := spaced(g.tree([]int{api.Module}, 1+g.Intn(6)))
		for range 6 {
			if src == "" {
				break
			}
			i, j := g.Intn(len(src)), g.Intn(len(bytes))
			switch g.Intn(3) {
			case 0:
				src = src[:i] + src[i+1:]
			case 1:
				src = src[:i] + bytes[j:j+1] + src[i:]
			case 2:
				src = src[:i] + bytes[j:j+1] + src[i+1:]
			}
			checkSource(t, src)
			if _, _, e := syntax.Parse(src); e == api.OK {
				good++
			}
		}
	}
	if good < 200 {
		t.Errorf("only %d of the damaged sources have trees", good)
	}
}

func TestArbitraryTrees(t *testing.T) {
	g := grower{Rand: rand.New(rand.NewSource(5))}
	var any func(levels int) api.Tree
	any = func(levels int) api.Tree {
		tree := api.Tree{Kind: g.Intn(api.Paren+3) - 1, Text: g.text(1 + g.Intn(api.Paren))}
		for range g.Intn(4) {
			tree.Leads = append(tree.Leads, g.lead(g.Intn(2) == 0))
		}
		for levels > 0 && g.Intn(3) > 0 {
			tree.Kids = append(tree.Kids, any(levels-1))
		}
		return tree
	}
	for range 20000 {
		tree := any(g.Intn(4))
		shaped, valid, text := syntax.Shaped(tree), syntax.Valid(tree), syntax.Print(tree)
		if valid && !shaped || !shaped && text != "" || valid != (text != "") {
			t.Fatalf("P2.4: %v: Shaped %t, Valid %t, Print %q", tree, shaped, valid, text)
		}
		if again := fmt.Sprint(syntax.Shaped(tree), syntax.Valid(tree), syntax.Print(tree)); again != fmt.Sprint(shaped, valid, text) {
			t.Fatalf("R3: %v: %s", tree, again)
		}
	}
}

func FuzzParse(f *testing.F) {
	g := grower{Rand: rand.New(rand.NewSource(6))}
	for range 20 {
		_, src := spaced(g.tree([]int{api.Module}, 5))
		f.Add(src)
	}
	f.Fuzz(checkSource)
}
