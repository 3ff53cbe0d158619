package cells_test

import (
	"math"
	"slices"
	"strings"
	"testing"

	"semvcs/api"
	"semvcs/cells"
)

// The ids of these tests: the first one and the last one that there are, and
// some between.
const (
	firstId = 1<<20 + 1
	idA     = 1<<20 + 7
	idB     = 1<<20 + 8
	idC     = 5<<20 + 1
	lastId  = 33<<20 - 1
)

// lastField is FLead + MaxLeads - 1.
const lastField = 47

func text(s string) api.Value { return api.Value{Text: s} }

func number(n int) api.Value { return api.Value{N: n} }

func cell(id, field int, v api.Value) api.Cell {
	return api.Cell{Id: id, Field: field, V: v}
}

// none is the write of a zero value.
func none(id, field int) api.Cell {
	return api.Cell{Id: id, Field: field}
}

// sample is a list of a model.
func sample() []api.Cell {
	return []api.Cell{
		cell(idA, api.FKind, number(api.EModule)),
		cell(idA, api.FName, text("M")),
		cell(idB, api.FKind, number(api.EFunc)),
		cell(idB, api.FHome, api.Value{Ref: idA, Text: "n"}),
		cell(idB, api.FName, text("f")),
		cell(idC, api.FShape, api.Value{Flag: true}),
	}
}

func TestLimits(t *testing.T) {
	if api.FKind != 1 || api.FLead != 8 || api.MaxLeads != 40 {
		t.Errorf("P12.1: the fields are from %d to %d + %d - 1", api.FKind, api.FLead, api.MaxLeads)
	}
}

func TestExamples(t *testing.T) {
	if got := cells.Diff(sample(), sample()); len(got) != 0 {
		t.Errorf("P12.3: Diff of a list to itself is %v", got)
	}
	for i, c := range sample() {
		got := cells.Put(sample(), []api.Cell{none(c.Id, c.Field)})
		if want := slices.Delete(sample(), i, i+1); !slices.Equal(got, want) {
			t.Errorf("P12.3: Put of a zero value for the cell %d is %v", i, got)
		}
	}
}

// values are values that are not zero, each in one part alone and in several.
func values() []api.Value {
	return []api.Value{
		{N: 1}, {N: -1}, {N: math.MaxInt}, {N: math.MinInt},
		{Flag: true},
		{Text: "x"}, {Text: " "}, {Text: "\x00"}, {Text: "\xff"}, {Text: strings.Repeat("x", 300)},
		{Ref: idA}, {Ref: 1}, {Ref: -1}, {Ref: math.MinInt},
		{N: 1, Flag: true, Text: "x", Ref: idA}, {N: 1, Ref: -1},
	}
}

// goodLists are lists of writes.
func goodLists() [][]api.Cell {
	v := text("v")
	l := [][]api.Cell{
		nil,
		{},
		sample(),
		{cell(firstId, api.FKind, v), cell(lastId, lastField, v)},
		{cell(firstId, api.FKind, v), cell(firstId, lastField, v), cell(firstId+1, api.FKind, v)},
		{cell(idA, lastField, v), cell(idB, api.FKind, v)},
		{cell(idA, 5, v), cell(idA, 6, v), cell(idA, 7, v)},
		{cell(2<<20-1, lastField, v), cell(2<<20+1, api.FKind, v)},
		{cell(idA, 9, text("z")), cell(idA, 10, text("a"))},
	}
	var all []api.Cell
	for field := 1; field <= 47; field++ {
		l = append(l, []api.Cell{cell(idA, field, v)})
		all = append(all, cell(idA, field, v))
	}
	for _, id := range []int{firstId, 2<<20 - 1, 2<<20 + 1, 32<<20 + 1, lastId} {
		l = append(l, []api.Cell{cell(id, 3, v)})
	}
	return append(l, all)
}

// badLists are lists that are no writes.
func badLists() [][]api.Cell {
	v := text("v")
	l := [][]api.Cell{
		// Not ascending.
		{cell(idA, 3, v), cell(idA, 3, v)},
		{cell(idA, 3, v), cell(idA, 3, text("w"))},
		{cell(idA, 3, text("w")), cell(idA, 3, v)},
		{cell(idA, 3, v), none(idA, 3)},
		{none(idA, 3), cell(idA, 3, v)},
		{cell(idA, 4, v), cell(idA, 3, v)},
		{cell(idB, 3, v), cell(idA, 3, v)},
		{cell(idB, 3, v), cell(idA, 4, v)},
		{cell(idB, 4, v), cell(idA, 3, v)},
		{cell(idA, 1, v), cell(idA, 2, v), cell(idA, 2, v)},
		{cell(idA, 1, v), cell(idB, 2, v), cell(idA, 3, v)},
		{cell(idA, 1, v), cell(idA, 4, v), cell(idA, 3, v), cell(idA, 5, v)},
		{cell(lastId, lastField, v), cell(firstId, api.FKind, v)},
	}
	ids := []int{0, 1, -1, 7, 1 << 20, firstId - 1, 2 << 20, 32 << 20, lastId + 1, lastId + 2, -idA, math.MaxInt, math.MinInt, math.MinInt + idA}
	for _, id := range ids {
		l = append(l, []api.Cell{cell(id, 3, v)}, []api.Cell{none(id, 3)})
	}
	for _, field := range []int{0, -1, 48, 49, 1 << 20, 1<<32 + 3, math.MaxInt, math.MinInt, math.MinInt + 3} {
		l = append(l, []api.Cell{cell(idA, field, v)}, []api.Cell{none(idA, field)})
	}
	// A bad cell as the first, the last and one between, in the right order.
	return append(l,
		[]api.Cell{cell(7, 3, v), cell(idA, 3, v), cell(idB, 3, v)},
		[]api.Cell{cell(idA, 0, v), cell(idA, 3, v), cell(idB, 3, v)},
		[]api.Cell{cell(idA, 3, v), cell(2<<20, 3, v), cell(idC, 3, v)},
		[]api.Cell{cell(idA, 3, v), cell(idA, 48, v), cell(idB, 3, v)},
		[]api.Cell{cell(idA, 3, v), cell(idB, 0, v), cell(idB, 3, v)},
		[]api.Cell{cell(idA, 3, v), cell(idB, 3, v), cell(lastId+1, 3, v)},
		[]api.Cell{cell(idA, 3, v), cell(idB, 3, v), cell(idB, 48, v)},
	)
}

func TestWrites(t *testing.T) {
	for _, l := range goodLists() {
		if !cells.Writes(l) || !cells.Valid(l) {
			t.Errorf("P12.1: Writes and Valid of %v are %t and %t", l, cells.Writes(l), cells.Valid(l))
		}
	}
	for _, l := range badLists() {
		if cells.Writes(l) || cells.Valid(l) {
			t.Errorf("P12.1: Writes and Valid of %v are %t and %t", l, cells.Writes(l), cells.Valid(l))
		}
	}
}

func TestZeroValues(t *testing.T) {
	for _, v := range values() {
		l := []api.Cell{cell(idA, 3, v), cell(idB, 1, v)}
		if !cells.Writes(l) || !cells.Valid(l) {
			t.Errorf("P12.1: Writes and Valid of a list with %.40v are %t and %t", v, cells.Writes(l), cells.Valid(l))
		}
	}
	for _, l := range goodLists() {
		for i := range l {
			l := slices.Clone(l)
			l[i].V = api.Value{}
			if !cells.Writes(l) || cells.Valid(l) {
				t.Errorf("P12.1: Writes and Valid of %v are %t and %t", l, cells.Writes(l), cells.Valid(l))
			}
		}
	}
	if l := []api.Cell{none(idA, 1), none(idA, 2)}; !cells.Writes(l) || cells.Valid(l) {
		t.Errorf("P12.1: Writes and Valid of zero values are %t and %t", cells.Writes(l), cells.Valid(l))
	}
}

func TestGet(t *testing.T) {
	for _, l := range goodLists() {
		for _, c := range l {
			if got := cells.Get(l, c.Id, c.Field); got != c.V {
				t.Errorf("P12.2: Get(%v, %d, %d) is %v", l, c.Id, c.Field, got)
			}
		}
	}
	for _, at := range []api.Spot{
		{Id: idA, Field: api.FHome}, {Id: idA, Field: api.FShape}, {Id: idA}, {Id: idA, Field: -1}, {Id: idA, Field: 48}, {Id: idA, Field: math.MaxInt},
		{Id: idA - 1, Field: api.FKind}, {Id: idB + 1, Field: api.FKind}, {Id: idC, Field: api.FKind}, {Id: idC, Field: api.FShape + 1},
		{Field: api.FKind}, {Id: -idA, Field: api.FKind}, {Id: lastId, Field: api.FKind}, {Id: math.MinInt, Field: math.MinInt}, {},
	} {
		if got := cells.Get(sample(), at.Id, at.Field); got != (api.Value{}) {
			t.Errorf("P12.2: Get of %v is %v", at, got)
		}
		if got := cells.Get(nil, at.Id, at.Field); got != (api.Value{}) {
			t.Errorf("P12.2: Get of %v in an empty list is %v", at, got)
		}
	}
}

// mixed is a list in no order, with registers that come several times and with
// some that are none.
func mixed() []api.Cell {
	return []api.Cell{
		cell(idC, 3, text("1")),
		cell(idA, 4, text("2")),
		cell(idA, 3, text("3")),
		cell(idC, 3, text("4")),
		none(idB, 2),
		cell(idA, 4, text("5")),
		cell(idB, 2, text("6")),
		cell(7, 3, text("7")),
		cell(0, 0, text("8")),
		cell(-1, math.MinInt, text("9")),
		cell(idA, 48, text("10")),
		cell(idA, 1, text("11")),
		cell(idA, 3, text("12")),
		cell(7, 3, text("13")),
		cell(0, 0, text("14")),
	}
}

func TestGetInAnyList(t *testing.T) {
	for _, x := range []struct {
		id, field int
		want      string
	}{
		{idC, 3, "1"}, {idA, 4, "2"}, {idA, 3, "3"}, {idB, 2, ""}, {7, 3, "7"}, {0, 0, "8"},
		{-1, math.MinInt, "9"}, {idA, 48, "10"}, {idA, 1, "11"}, {idC, 4, ""}, {3, idC, ""}, {3, 7, ""},
	} {
		if got := cells.Get(mixed(), x.id, x.field); got != text(x.want) {
			t.Errorf("P12.2: Get of %d, %d is %v", x.id, x.field, got)
		}
	}
}

func TestOf(t *testing.T) {
	l := sample()
	for id, want := range map[int][]api.Cell{
		idA: l[:2], idB: l[2:5], idC: l[5:],
		0: nil, 1: nil, idA - 1: nil, idB + 1: nil, firstId: nil, lastId: nil, -idA: nil, math.MaxInt: nil, math.MinInt: nil,
	} {
		if got := cells.Of(l, id); !slices.Equal(got, want) {
			t.Errorf("P12.2: Of %d is %v", id, got)
		}
		if got := cells.Of(nil, id); len(got) != 0 {
			t.Errorf("P12.2: Of %d in an empty list is %v", id, got)
		}
	}
	m := mixed()
	for id, want := range map[int][]api.Cell{
		idA: {m[1], m[2], m[5], m[10], m[11], m[12]},
		idB: {m[4], m[6]},
		idC: {m[0], m[3]},
		7:   {m[7], m[13]},
		0:   {m[8], m[14]},
		-1:  {m[9]},
		3:   nil,
	} {
		if got := cells.Of(m, id); !slices.Equal(got, want) {
			t.Errorf("P12.2: Of %d in a list without order is %v", id, got)
		}
	}
}

func TestPut(t *testing.T) {
	a, b, c := cell(idA, 3, text("a")), cell(idB, 1, text("b")), cell(idB, 4, text("c"))
	other := cell(idB, 1, text("other"))
	for _, x := range []struct{ l, w, want []api.Cell }{
		{nil, nil, nil},
		{[]api.Cell{a, b, c}, nil, []api.Cell{a, b, c}},
		{nil, []api.Cell{a, b, c}, []api.Cell{a, b, c}},
		{[]api.Cell{b, c}, []api.Cell{a}, []api.Cell{a, b, c}},
		{[]api.Cell{a, c}, []api.Cell{b}, []api.Cell{a, b, c}},
		{[]api.Cell{a, b}, []api.Cell{c}, []api.Cell{a, b, c}},
		{[]api.Cell{b}, []api.Cell{a, c}, []api.Cell{a, b, c}},
		{[]api.Cell{a, b, c}, []api.Cell{other}, []api.Cell{a, other, c}},
		{[]api.Cell{a, b, c}, []api.Cell{b}, []api.Cell{a, b, c}},
		{[]api.Cell{a, b, c}, []api.Cell{a, b, c}, []api.Cell{a, b, c}},
		{[]api.Cell{b}, []api.Cell{a, other, c}, []api.Cell{a, other, c}},
		{[]api.Cell{a, b, c}, []api.Cell{none(idA, 3)}, []api.Cell{b, c}},
		{[]api.Cell{a, b, c}, []api.Cell{none(idB, 1)}, []api.Cell{a, c}},
		{[]api.Cell{a, b, c}, []api.Cell{none(idB, 4)}, []api.Cell{a, b}},
		{[]api.Cell{a, b, c}, []api.Cell{none(idA, 3), none(idB, 1), none(idB, 4)}, nil},
		{[]api.Cell{b}, []api.Cell{none(idA, 3), none(idA, 4), none(idB, 2), none(lastId, 47)}, []api.Cell{b}},
		{nil, []api.Cell{none(idA, 3), none(idB, 2)}, nil},
		{[]api.Cell{a, b}, []api.Cell{none(idA, 3), other, c}, []api.Cell{other, c}},
		{[]api.Cell{a}, []api.Cell{none(idA, 2), cell(idA, 4, text("x"))}, []api.Cell{a, cell(idA, 4, text("x"))}},
		{[]api.Cell{cell(idA, 3, api.Value{N: 1, Flag: true, Text: "x", Ref: idB})}, []api.Cell{cell(idA, 3, api.Value{Flag: true})}, []api.Cell{cell(idA, 3, api.Value{Flag: true})}},
	} {
		if got := cells.Put(x.l, x.w); !slices.Equal(got, x.want) {
			t.Errorf("P12.3: Put(%v, %v) is %v", x.l, x.w, got)
		}
	}
}

func TestDiff(t *testing.T) {
	a, b, c := cell(idA, 3, text("a")), cell(idB, 1, text("b")), cell(idB, 4, text("c"))
	other := cell(idB, 1, text("other"))
	for _, x := range []struct{ a, b, want []api.Cell }{
		{nil, nil, nil},
		{nil, []api.Cell{a, b, c}, []api.Cell{a, b, c}},
		{[]api.Cell{a, b, c}, nil, []api.Cell{none(idA, 3), none(idB, 1), none(idB, 4)}},
		{[]api.Cell{a, b, c}, []api.Cell{a, b, c}, nil},
		{[]api.Cell{a, b, c}, []api.Cell{a, other, c}, []api.Cell{other}},
		{[]api.Cell{a, b, c}, []api.Cell{b, c}, []api.Cell{none(idA, 3)}},
		{[]api.Cell{a, b, c}, []api.Cell{a, c}, []api.Cell{none(idB, 1)}},
		{[]api.Cell{a, b, c}, []api.Cell{a, b}, []api.Cell{none(idB, 4)}},
		{[]api.Cell{b, c}, []api.Cell{a, b, c}, []api.Cell{a}},
		{[]api.Cell{a, c}, []api.Cell{a, b, c}, []api.Cell{b}},
		{[]api.Cell{a, b}, []api.Cell{a, b, c}, []api.Cell{c}},
		{[]api.Cell{a}, []api.Cell{b}, []api.Cell{none(idA, 3), b}},
		{[]api.Cell{b}, []api.Cell{a}, []api.Cell{a, none(idB, 1)}},
		{[]api.Cell{a, other}, []api.Cell{b, c}, []api.Cell{none(idA, 3), b, c}},
		{[]api.Cell{b, c}, []api.Cell{a, other}, []api.Cell{a, other, none(idB, 4)}},
	} {
		if got := cells.Diff(x.a, x.b); !slices.Equal(got, x.want) {
			t.Errorf("P12.3: Diff(%v, %v) is %v", x.a, x.b, got)
		}
	}
}

// TestDiffOfValues has each part of a value as the only one that differs.
func TestDiffOfValues(t *testing.T) {
	for _, v := range values() {
		for _, w := range values() {
			a, b := []api.Cell{cell(idA, 3, v)}, []api.Cell{cell(idA, 3, w)}
			want := b
			if v == w {
				want = nil
			}
			if got := cells.Diff(a, b); !slices.Equal(got, want) {
				t.Errorf("P12.3: Diff(%.40v, %.40v) is %.40v", v, w, got)
			}
		}
	}
}

func TestInvalidArguments(t *testing.T) {
	zero := []api.Cell{cell(idA, 1, text("x")), none(idB, 2)}
	for _, bad := range append(badLists(), zero) {
		for _, good := range goodLists() {
			if got := cells.Put(bad, good); len(got) != 0 {
				t.Errorf("P12.3: Put(%v, %v) is %v", bad, good, got)
			}
			if got := cells.Diff(bad, good); len(got) != 0 {
				t.Errorf("P12.3: Diff(%v, %v) is %v", bad, good, got)
			}
			if got := cells.Diff(good, bad); len(got) != 0 {
				t.Errorf("P12.3: Diff(%v, %v) is %v", good, bad, got)
			}
		}
		if got := cells.Diff(bad, bad); len(got) != 0 {
			t.Errorf("P12.3: Diff(%v, %v) is %v", bad, bad, got)
		}
	}
	for _, bad := range badLists() {
		for _, l := range append(goodLists(), bad) {
			if got := cells.Put(l, bad); len(got) != 0 {
				t.Errorf("P12.3: Put(%v, %v) is %v", l, bad, got)
			}
		}
	}
}
