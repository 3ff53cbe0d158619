package syntax_test

import (
	"fmt"
	"slices"
	"strings"
	"testing"

	"semvcs/api"
	"semvcs/syntax"
)

var (
	definitions = []int{api.Func, api.Alias}
	params      = []int{api.Param}
	args        = []int{api.Arg}
	types       = []int{api.TInt, api.TText, api.TBool, api.TList, api.TName}
	units       = []int{api.Num, api.Str, api.Var, api.True, api.False, api.Hole, api.Call, api.List, api.Paren}
	operands    = append([]int{api.Bin}, units...)
	expressions = append([]int{api.If, api.Let}, operands...)
)

// kidKinds is what the table of the chapter says of the kids of samples.
func kidKinds() map[int][][]int {
	return map[int][][]int{
		api.Module: {definitions, definitions},
		api.Func:   {params, params, types, expressions},
		api.Alias:  {types},
		api.Param:  {types},
		api.TList:  {types},
		api.Call:   {args, args},
		api.Arg:    {expressions},
		api.List:   {expressions, expressions},
		api.If:     {expressions, expressions, expressions},
		api.Let:    {expressions, expressions},
		api.Bin:    {operands, units},
		api.Paren:  {expressions},
	}
}

func checkShaped(t *testing.T, tree api.Tree, want bool) {
	t.Helper()
	if got := syntax.Shaped(tree); got != want {
		t.Errorf("P2.3: Shaped(%.300s) is %t", fmt.Sprint(tree), got)
	}
}

func TestShapedSamples(t *testing.T) {
	for kind, sample := range samples() {
		if sample.Kind != kind {
			t.Fatalf("the sample of kind %d has kind %d", kind, sample.Kind)
		}
		checkShaped(t, sample, true)
		checkShaped(t, empty(sample), true)
		for _, other := range []int{0, -1, api.Paren + 1, 1 << 40} {
			unknown := clone(sample)
			unknown.Kind = other
			checkShaped(t, unknown, false)
		}
	}
	checkShaped(t, api.Tree{}, false)
}

func TestShapedKids(t *testing.T) {
	all := samples()
	all[0] = api.Tree{}
	all[-1] = bare(-1, "")
	all[api.Paren+1] = bare(api.Paren+1, "", num1)
	for kind, sample := range samples() {
		if len(sample.Kids) != len(kidKinds()[kind]) {
			t.Fatalf("the sample of kind %d has %d kids", kind, len(sample.Kids))
		}
		for i, kinds := range kidKinds()[kind] {
			for k, kid := range all {
				tree := clone(sample)
				tree.Kids[i] = kid
				checkShaped(t, tree, slices.Contains(kinds, k))
			}
			tree := clone(sample)
			tree.Kids[i].Text = " "
			checkShaped(t, tree, false)
		}
	}
}

func TestShapedCounts(t *testing.T) {
	for kind, sample := range samples() {
		for n := range 7 {
			tree := bare(kind, sample.Text)
			want := n == len(sample.Kids)
			switch kind {
			case api.Module:
				tree.Kids, want = times(n, fun), true
			case api.Call:
				tree.Kids, want = times(n, arg), true
			case api.List:
				tree.Kids, want = times(n, num1), n > 0
			case api.Func:
				tree.Kids, want = append(times(max(n-2, 0), param), tInt, num1), n >= 2
				tree.Kids = tree.Kids[len(tree.Kids)-n:]
				if n > 2 {
					tree.Kids[0] = param
				}
			case api.Alias, api.Param, api.TList:
				tree.Kids = times(n, tInt)
			default:
				tree.Kids = times(n, num1)
			}
			checkShaped(t, tree, want)
		}
	}
	checkShaped(t, bare(api.Func, "f", tInt, num1, num1), false)
	checkShaped(t, bare(api.Func, "f", tInt, tInt, num1), false)
	checkShaped(t, bare(api.Func, "f", param, param), false)
	checkShaped(t, bare(api.Func, "f", param, num1), false)
	checkShaped(t, bare(api.Func, "f", param, tInt), false)
	checkShaped(t, bare(api.Func, "f", num1, tInt), false)
	checkShaped(t, bare(api.Func, "f", tInt, param, num1), false)
}

func TestShapedTexts(t *testing.T) {
	lower := strings.Repeat("a", api.MaxName)
	texts := map[int][]string{
		api.Lower:   {"x", "f_1", lower},
		api.Upper:   {"X", "Module", strings.ToUpper(lower)},
		api.LowerOf: {"M.f", "M." + lower},
		api.UpperOf: {"M.T"},
		api.Number:  {"0", "12", strings.Repeat("9", api.MaxDigits)},
		api.String:  {`""`, `"a b"`, `"` + lower + lower + `"`},
		1000:        {"+", "-", "*", "<", "=="},
		1001:        {""},
		1002:        {" ", "x ", " x", "#", "x#", "x y", "if", "module", "Int", "true", "01", `"`, "=", "(", ")", "[", "]", ":", ",", "?", "+ ", "++", "===", ">", "M.", "M.if", "m.f", "x.y", lower + "a", strings.ToUpper(lower) + "A", strings.Repeat("9", api.MaxDigits+1), "\x00", "1x", "\"\n\""},
	}
	allowed := map[int][]int{
		api.Module: {api.Upper}, api.Alias: {api.Upper},
		api.Func: {api.Lower}, api.Param: {api.Lower}, api.Var: {api.Lower}, api.Let: {api.Lower},
		api.TName: {api.Upper, api.UpperOf}, api.Call: {api.Lower, api.LowerOf},
		api.Num: {api.Number}, api.Str: {api.String}, api.Bin: {1000},
	}
	for kind, sample := range samples() {
		classes, ok := allowed[kind]
		if !ok {
			classes = []int{1001}
		}
		for class, l := range texts {
			for _, text := range l {
				tree := clone(sample)
				tree.Text = text
				checkShaped(t, tree, slices.Contains(classes, class))
			}
		}
	}
}

// largest are trees beyond all limits that have the right shape.
func largest() []api.Tree {
	chain := num1
	for range 3 * api.MaxDepth {
		chain = bare(api.Paren, "", chain)
	}
	return []api.Tree{
		bare(api.Module, "M", times(api.MaxDefs+1, fun)...),
		bare(api.Func, "f", append(times(api.MaxParams+1, param), tInt, num1)...),
		bare(api.Call, "f", times(api.MaxParams+1, arg)...),
		bare(api.List, "", times(api.MaxItems+1, num1)...),
		chain,
		bare(api.Str, `"`+strings.Repeat("a", api.MaxFile)+`"`),
	}
}

func TestShapedHasNoLimits(t *testing.T) {
	for _, tree := range largest() {
		checkShaped(t, tree, true)
	}
	chain := num1
	for range 1 << 15 {
		chain = bare(api.Paren, "", chain)
	}
	checkShaped(t, chain, true)
}

func TestShapedIgnoresLeads(t *testing.T) {
	for _, sample := range samples() {
		for _, leads := range [][]string{nil, {}, {"x"}, {"", "\x00", "#"}, slices.Repeat([]string{"no trivia"}, 50)} {
			tree := clone(sample)
			tree.Leads = leads
			checkShaped(t, tree, true)
		}
	}
}

func TestShapedLooksAtAllLevels(t *testing.T) {
	for _, wrong := range []api.Tree{bare(api.Var, "X"), bare(api.List, ""), bare(api.Bin, "=", num1, num1), bare(api.Bin, "+", num1, sum), bare(api.Paren, "x", num1)} {
		for _, around := range []func(api.Tree) api.Tree{
			func(t api.Tree) api.Tree { return bare(api.Paren, "", t) },
			func(t api.Tree) api.Tree { return bare(api.List, "", num1, t) },
			func(t api.Tree) api.Tree { return bare(api.Call, "f", arg, bare(api.Arg, "", t)) },
			func(t api.Tree) api.Tree { return bare(api.If, "", num1, num1, t) },
			func(t api.Tree) api.Tree { return bare(api.Let, "x", t, num1) },
			in,
		} {
			checkShaped(t, around(num1), true)
			checkShaped(t, around(wrong), false)
			checkShaped(t, in(bare(api.Paren, "", around(wrong))), false)
		}
	}
}
