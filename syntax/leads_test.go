package syntax_test

import (
	"math"
	"testing"

	"semvcs/api"
	"semvcs/syntax"
)

func TestLeads(t *testing.T) {
	const no = -1
	for kind, want := range map[int][]int{ // by the number of kids
		api.Module:  {3, 3, 3, 3, 3, 3},
		api.Func:    {no, no, 6, 6, 7, 8},
		api.Alias:   {no, 3, no, no, no, no},
		api.Param:   {no, 2, no, no, no, no},
		api.TInt:    {1, no, no, no, no, no},
		api.TText:   {1, no, no, no, no, no},
		api.TBool:   {1, no, no, no, no, no},
		api.TList:   {no, 2, no, no, no, no},
		api.TName:   {1, no, no, no, no, no},
		api.Num:     {1, no, no, no, no, no},
		api.Str:     {1, no, no, no, no, no},
		api.Var:     {1, no, no, no, no, no},
		api.True:    {1, no, no, no, no, no},
		api.False:   {1, no, no, no, no, no},
		api.Hole:    {1, no, no, no, no, no},
		api.Call:    {3, 3, 4, 5, 6, 7},
		api.Arg:     {no, 0, no, no, no, no},
		api.List:    {no, 2, 3, 4, 5, 6},
		api.If:      {no, no, no, 3, no, no},
		api.Let:     {no, no, 4, no, no, no},
		api.Bin:     {no, no, 1, no, no, no},
		api.Paren:   {no, 2, no, no, no, no},
		0:           {no, no, no, no, no, no},
		-1:          {no, no, no, no, no, no},
		23:          {no, no, no, no, no, no},
		100:         {no, no, no, no, no, no},
		math.MaxInt: {no, no, no, no, no, no},
		math.MinInt: {no, no, no, no, no, no},
	} {
		for kids, n := range want {
			if got := syntax.Leads(kind, kids); got != n {
				t.Errorf("P2.1: Leads(%d, %d) is %d, not %d", kind, kids, got, n)
			}
		}
		for _, kids := range []int{-1, -2, -3, math.MinInt + 2, math.MinInt + 1, math.MinInt} {
			if got := syntax.Leads(kind, kids); got != no {
				t.Errorf("P2.1: Leads(%d, %d) is %d", kind, kids, got)
			}
		}
	}
}

func TestLeadsOfManyKids(t *testing.T) {
	for _, x := range []struct{ kind, kids, want int }{
		{api.Module, api.MaxDefs + 1, 3},
		{api.Func, api.MaxParams + 3, api.MaxParams + 6},
		{api.Call, api.MaxParams + 1, api.MaxParams + 3},
		{api.List, api.MaxItems + 1, api.MaxItems + 2},
		{api.Module, math.MaxInt, 3},
		{api.Func, math.MaxInt - 3, math.MaxInt},
		{api.Func, math.MaxInt - 2, math.MinInt},
		{api.Func, math.MaxInt, math.MinInt + 2},
		{api.Call, math.MaxInt - 2, math.MaxInt},
		{api.Call, math.MaxInt - 1, math.MinInt},
		{api.Call, math.MaxInt, math.MinInt + 1},
		{api.List, math.MaxInt - 1, math.MaxInt},
		{api.List, math.MaxInt, math.MinInt},
		{api.If, math.MaxInt, -1},
		{api.Bin, math.MaxInt, -1},
		{api.Num, math.MaxInt, -1},
		{api.Arg, math.MaxInt, -1},
	} {
		if got := syntax.Leads(x.kind, x.kids); got != x.want {
			t.Errorf("P2.1: Leads(%d, %d) is %d, not %d", x.kind, x.kids, got, x.want)
		}
	}
}
