package syntax_test

import (
	"slices"
	"strconv"
	"strings"
	"testing"

	"semvcs/api"
	"semvcs/syntax"
)

// same compares trees; a nil list and an empty one are equal.
func same(a, b api.Tree) bool {
	return a.Kind == b.Kind && a.Text == b.Text && slices.Equal(a.Leads, b.Leads) && slices.EqualFunc(a.Kids, b.Kids, same)
}

func clone(t api.Tree) api.Tree {
	t.Leads = slices.Clone(t.Leads)
	t.Kids = slices.Clone(t.Kids)
	for i, k := range t.Kids {
		t.Kids[i] = clone(k)
	}
	return t
}

// bare is a tree without leads.
func bare(kind int, text string, kids ...api.Tree) api.Tree {
	return api.Tree{Kind: kind, Text: text, Kids: kids}
}

// empty gives each node of t as many empty leads as the chapter asks for.
func empty(t api.Tree) api.Tree {
	t = clone(t)
	n := len(t.Kids)
	switch t.Kind {
	case api.TInt, api.TText, api.TBool, api.TName, api.Num, api.Str, api.Var, api.True, api.False, api.Hole, api.Bin:
		n = 1
	case api.Param, api.TList, api.Paren:
		n = 2
	case api.Module, api.Alias, api.If:
		n = 3
	case api.Let:
		n = 4
	case api.Arg:
		n = 0
	case api.List:
		n = 2 + max(n-1, 0)
	case api.Call:
		n = 3 + max(n-1, 0)
	case api.Func:
		n = 6 + max(n-3, 0)
	}
	t.Leads = make([]string, n)
	for i, k := range t.Kids {
		t.Kids[i] = empty(k)
	}
	return t
}

func times(n int, t api.Tree) []api.Tree {
	return slices.Repeat([]api.Tree{t}, n)
}

var (
	tInt    = bare(api.TInt, "")
	num1    = bare(api.Num, "1")
	varX    = bare(api.Var, "x")
	param   = bare(api.Param, "x", tInt)
	arg     = bare(api.Arg, "", num1)
	sum     = bare(api.Bin, "+", num1, varX)
	choice  = bare(api.If, "", bare(api.True, ""), num1, varX)
	binding = bare(api.Let, "x", num1, varX)
	fun     = bare(api.Func, "f", tInt, num1)
	alias   = bare(api.Alias, "A", tInt)
)

// samples has one tree of each kind, with the right shape and no leads.
func samples() map[int]api.Tree {
	return map[int]api.Tree{
		api.Module: bare(api.Module, "M", fun, alias),
		api.Func:   bare(api.Func, "f", param, param, tInt, sum),
		api.Alias:  alias,
		api.Param:  param,
		api.TInt:   tInt,
		api.TText:  bare(api.TText, ""),
		api.TBool:  bare(api.TBool, ""),
		api.TList:  bare(api.TList, "", tInt),
		api.TName:  bare(api.TName, "A"),
		api.Num:    num1,
		api.Str:    bare(api.Str, `"a"`),
		api.Var:    varX,
		api.True:   bare(api.True, ""),
		api.False:  bare(api.False, ""),
		api.Hole:   bare(api.Hole, ""),
		api.Call:   bare(api.Call, "f", arg, arg),
		api.Arg:    arg,
		api.List:   bare(api.List, "", num1, varX),
		api.If:     choice,
		api.Let:    binding,
		api.Bin:    sum,
		api.Paren:  bare(api.Paren, "", num1),
	}
}

// in is the tree of a source that has t as the body of a function.
func in(t api.Tree) api.Tree {
	return bare(api.Module, "M", bare(api.Func, "f", tInt, t))
}

// comment is the lead of the i-th token of a numbered source.
func comment(i int) string {
	return "#" + strconv.Itoa(i) + "\n"
}

// numbered is a tree whose leads are told by the numbers of the tokens.
func numbered(kind int, text string, tokens []int, kids ...api.Tree) api.Tree {
	t := bare(kind, text, kids...)
	for _, i := range tokens {
		t.Leads = append(t.Leads, comment(i))
	}
	return t
}

// number puts comment(i) ahead of the i-th of the tokens, which are separated
// by blanks, and another one ahead of the end.
func number(tokens string) string {
	src := ""
	l := strings.Fields(tokens)
	for i, text := range l {
		src += comment(i) + text
	}
	return src + comment(len(l))
}

// capacity fills the spare capacity of all slices of a tree.
func capacity(t api.Tree) {
	_ = append(t.Leads[:len(t.Leads):cap(t.Leads)], slices.Repeat([]string{"spare"}, cap(t.Leads)-len(t.Leads))...)
	_ = append(t.Kids[:len(t.Kids):cap(t.Kids)], times(cap(t.Kids)-len(t.Kids), bare(-1, "spare"))...)
	for _, k := range t.Kids {
		capacity(k)
	}
}

func mustParse(t *testing.T, src string) api.Tree {
	t.Helper()
	tree, at, e := syntax.Parse(src)
	if at != 0 || e != api.OK {
		t.Fatalf("P2.2: Parse(%q): error %d at %d", src, e, at)
	}
	return tree
}
