package cells_test

import (
	"maps"
	"math/rand"
	"slices"
	"testing"

	"semvcs/api"
	"semvcs/cells"
)

// registers are registers with their values; one that is not in it has the
// zero value.
type registers map[api.Spot]api.Value

// read returns the registers of a list.
func read(l []api.Cell) registers {
	m := registers{}
	for _, c := range l {
		m[api.Spot{Id: c.Id, Field: c.Field}] = c.V
	}
	return m
}

// list returns the cells of some registers, ascending.
func (m registers) list() []api.Cell {
	var l []api.Cell
	for at, v := range m {
		l = append(l, api.Cell{Id: at.Id, Field: at.Field, V: v})
	}
	slices.SortFunc(l, func(a, b api.Cell) int { return rank(a) - rank(b) })
	return l
}

// rank orders the registers that there are, as they have less than 48 fields.
func rank(c api.Cell) int { return c.Id*48 + c.Field }

// put is Put of lists that are as they must be.
func put(l, w []api.Cell) []api.Cell {
	m := read(l)
	maps.Copy(m, read(w))
	maps.DeleteFunc(m, func(_ api.Spot, v api.Value) bool { return v == api.Value{} })
	return m.list()
}

// diff is Diff of lists that are as they must be.
func diff(a, b []api.Cell) []api.Cell {
	from, to, w := read(a), read(b), registers{}
	for at := range from {
		w[at] = to[at]
	}
	maps.Copy(w, to)
	maps.DeleteFunc(w, func(at api.Spot, v api.Value) bool { return v == from[at] })
	return w.list()
}

// isRegister looks for the site and the serial of the id by division.
func isRegister(c api.Cell) bool {
	site, serial := c.Id/(1<<20), c.Id%(1<<20)
	return site >= 1 && site <= 32 && serial >= 1 && c.Field >= 1 && c.Field <= 47
}

// isWrites compares each cell with all behind it.
func isWrites(l []api.Cell) bool {
	for i, c := range l {
		if !isRegister(c) {
			return false
		}
		for _, later := range l[i+1:] {
			if !isRegister(later) || rank(c) >= rank(later) {
				return false
			}
		}
	}
	return true
}

func hasZero(l []api.Cell) bool {
	for _, c := range l {
		if c.V.N == 0 && !c.V.Flag && c.V.Text == "" && c.V.Ref == 0 {
			return true
		}
	}
	return false
}

// check compares all functions with their models, for lists of any kind.
func check(t *testing.T, a, b []api.Cell) {
	t.Helper()
	validA, validB := isWrites(a) && !hasZero(a), isWrites(b) && !hasZero(b)
	if got := cells.Writes(b); got != isWrites(b) {
		t.Fatalf("P12.1: Writes(%v) is %t", b, got)
	}
	if got := cells.Valid(b); got != validB {
		t.Fatalf("P12.1: Valid(%v) is %t", b, got)
	}
	var wantPut, wantDiff []api.Cell
	if validA && isWrites(b) {
		wantPut = put(a, b)
	}
	if validA && validB {
		wantDiff = diff(a, b)
	}
	gotPut, gotDiff := cells.Put(a, b), cells.Diff(a, b)
	if !slices.Equal(gotPut, wantPut) || !cells.Valid(gotPut) {
		t.Fatalf("P12.3: Put(%v, %v) is %v", a, b, gotPut)
	}
	if !slices.Equal(gotDiff, wantDiff) || !cells.Writes(gotDiff) {
		t.Fatalf("P12.3: Diff(%v, %v) is %v", a, b, gotDiff)
	}
	if validA && validB && !slices.Equal(cells.Put(a, gotDiff), b) {
		t.Fatalf("Consequences: Put(%v, %v) is not %v", a, gotDiff, b)
	}
}

// checkFinds compares Get and Of with a look at the list from its end.
func checkFinds(t *testing.T, l []api.Cell, ids, fields []int) {
	t.Helper()
	for _, id := range ids {
		var of []api.Cell
		first := map[int]api.Value{}
		for i := len(l) - 1; i >= 0; i-- {
			if l[i].Id == id {
				of = slices.Insert(of, 0, l[i])
				first[l[i].Field] = l[i].V
			}
		}
		if got := cells.Of(l, id); !slices.Equal(got, of) {
			t.Fatalf("P12.2: Of(%v, %d) is %v", l, id, got)
		}
		for _, field := range fields {
			if got := cells.Get(l, id, field); got != first[field] {
				t.Fatalf("P12.2: Get(%v, %d, %d) is %v", l, id, field, got)
			}
		}
	}
}

// allLists returns all lists of cells with some registers, of which each one
// has one of some values or no cell.
func allLists(spots []api.Spot, values []api.Value) [][]api.Cell {
	lists := [][]api.Cell{nil}
	for _, at := range spots {
		for _, l := range lists {
			for _, v := range values {
				lists = append(lists, append(slices.Clip(l), api.Cell{Id: at.Id, Field: at.Field, V: v}))
			}
		}
	}
	return lists
}

// TestAllSmallLists has all lists of four registers with up to two values.
func TestAllSmallLists(t *testing.T) {
	spots := []api.Spot{{Id: idA, Field: 1}, {Id: idA, Field: 47}, {Id: idB, Field: 1}, {Id: idC, Field: 8}}
	models := allLists(spots, []api.Value{number(1), text("x")})
	writes := allLists(spots, []api.Value{{}, number(1), text("x")})
	if len(models) != 81 || len(writes) != 256 {
		t.Fatalf("there are %d and %d lists", len(models), len(writes))
	}
	for _, a := range models {
		shortest := map[string]int{}
		for _, w := range writes {
			check(t, a, w)
			key := name(cells.Put(a, w))
			if n, ok := shortest[key]; !ok || len(w) < n {
				shortest[key] = len(w)
			}
		}
		for _, b := range models {
			if got := cells.Diff(a, b); len(got) != shortest[name(b)] {
				t.Fatalf("P12.3: Diff(%v, %v) is %v, though %d writes suffice", a, b, got, shortest[name(b)])
			}
		}
	}
}

// name returns a text that only equal lists of the four registers share.
func name(l []api.Cell) string {
	var text []byte
	for _, c := range l {
		text = append(text, byte(c.Id>>20), byte(c.Id), byte(c.Field), byte(c.V.N))
		text = append(text, c.V.Text...)
	}
	return string(text)
}

// TestAllShortLists has all lists of up to three cells, most of them in no
// order.
func TestAllShortLists(t *testing.T) {
	ids, fields := []int{7, idA, idB}, []int{0, 1, 47, 48}
	var alphabet []api.Cell
	for _, id := range ids {
		for _, field := range fields {
			for _, v := range []api.Value{{}, text("x")} {
				alphabet = append(alphabet, api.Cell{Id: id, Field: field, V: v})
			}
		}
	}
	other := []api.Cell{cell(idA, 1, text("y")), cell(idA, 47, text("x")), cell(idB, 2, text("x"))}
	var grow func([]api.Cell)
	grow = func(l []api.Cell) {
		check(t, other, l)
		check(t, l, other)
		checkFinds(t, l, ids, fields)
		if len(l) < 3 {
			for _, c := range alphabet {
				grow(append(slices.Clip(l), c))
			}
		}
	}
	grow(nil)
}

// randomCells returns up to n cells of different registers, ascending, some of
// them zero if zero is true.
func randomCells(r *rand.Rand, n int, zero bool) []api.Cell {
	few := values()[:9]
	m := registers{}
	for range r.Intn(n + 1) {
		id := (1+r.Intn(32))<<20 + 1 + r.Intn(1+n/10)
		if r.Intn(20) == 0 {
			id = (2+r.Intn(32))<<20 - 1
		}
		at := api.Spot{Id: id, Field: 1 + r.Intn(47)}
		m[at] = few[r.Intn(len(few))]
		if zero && r.Intn(3) == 0 {
			m[at] = api.Value{}
		}
	}
	return m.list()
}

// change returns the cells of l with changes, up to n.
func change(r *rand.Rand, l []api.Cell, n int) []api.Cell {
	m := read(l)
	for range r.Intn(n + 1) {
		if len(l) == 0 || r.Intn(3) == 0 {
			maps.Copy(m, read(randomCells(r, 1, false)))
			continue
		}
		c := l[r.Intn(len(l))]
		at := api.Spot{Id: c.Id, Field: c.Field}
		if delete(m, at); r.Intn(2) == 0 {
			m[at] = values()[r.Intn(9)]
		}
	}
	return m.list()
}

func TestRandomLists(t *testing.T) {
	r := rand.New(rand.NewSource(12))
	for i := range 400 {
		a, b, w := randomCells(r, 3+i, false), randomCells(r, 3+i, false), randomCells(r, 3+i, true)
		check(t, a, b)
		check(t, a, w)
		check(t, a, a)
		check(t, a, change(r, a, 9))
		check(t, change(r, b, 9), b)
		var ids []int
		for range 5 {
			if len(w) > 0 {
				ids = append(ids, w[r.Intn(len(w))].Id)
			}
		}
		checkFinds(t, w, ids, []int{1, 2, 3, 9, 30, 46, 47})
		r.Shuffle(len(w), func(i, k int) { w[i], w[k] = w[k], w[i] })
		checkFinds(t, w, ids, []int{1, 2, 3, 9, 30, 46, 47})
	}
}

// TestDamagedLists changes one cell of a list, so that it can lose its order or
// stop being a register.
func TestDamagedLists(t *testing.T) {
	r := rand.New(rand.NewSource(13))
	good, bad := 0, 0
	for i := range 3000 {
		l := append(randomCells(r, 1+i/50, i%2 == 0), cell(lastId, lastField, text("x")))
		at := r.Intn(len(l))
		switch i % 6 {
		case 0:
			l[at].Id = []int{0, 1 << 20, 17 << 20, 33 << 20, -l[at].Id, l[at].Id + 1, l[at].Id - 1, l[at].Id + 32<<20}[r.Intn(8)]
		case 1:
			l[at].Field = r.Intn(50) - 1
		case 2:
			l[at].V = api.Value{}
		case 3:
			l = slices.Insert(l, at, l[r.Intn(len(l))])
		case 4:
			other := r.Intn(len(l))
			l[at], l[other] = l[other], l[at]
		case 5:
			l[at].Id, l[at].Field = l[at].Id+(r.Intn(3)-1)<<20, l[at].Field+r.Intn(3)-1
		}
		if isWrites(l) {
			good++
		} else {
			bad++
		}
		other := randomCells(r, 9, false)
		check(t, other, l)
		check(t, l, other)
	}
	if good < 300 || bad < 300 {
		t.Errorf("%d lists are in order and %d are not", good, bad)
	}
}

// TestOrderOfWrites puts writes of different registers in parts.
func TestOrderOfWrites(t *testing.T) {
	r := rand.New(rand.NewSource(14))
	for i := range 300 {
		l, w := randomCells(r, 2+i, false), randomCells(r, 2+i, true)
		want := cells.Put(l, w)
		var one, two []api.Cell
		for _, c := range w {
			if r.Intn(2) == 0 {
				one = append(one, c)
			} else {
				two = append(two, c)
			}
		}
		first, second := cells.Put(cells.Put(l, one), two), cells.Put(cells.Put(l, two), one)
		if !slices.Equal(first, want) || !slices.Equal(second, want) {
			t.Fatalf("Consequences: Put(%v) of %v and of %v depends on their order", l, one, two)
		}
		if again := cells.Put(want, w); !slices.Equal(again, want) {
			t.Fatalf("P12.3: Put(%v, %v) is %v", want, w, again)
		}
	}
}

// TestLongLists has lists for which a look at all cells for each cell would take
// minutes.
func TestLongLists(t *testing.T) {
	const n = 400000
	even, odd, all := make([]api.Cell, n), make([]api.Cell, n), make([]api.Cell, 0, 2*n)
	erase := make([]api.Cell, n)
	for i := range n {
		even[i] = cell(idA+i, 2, text("e"))
		odd[i] = cell(idA+i, 3, text("o"))
		erase[i] = none(idA+i, 2)
		all = append(all, even[i], odd[i])
	}
	if got := cells.Put(even, odd); !slices.Equal(got, all) {
		t.Errorf("P12.3: Put of long lists is another list")
	}
	if got := cells.Put(all, erase); !slices.Equal(got, odd) {
		t.Errorf("P12.3: Put of many zero values is another list")
	}
	if got := cells.Diff(even, all); !slices.Equal(got, odd) {
		t.Errorf("P12.3: Diff of long lists is another list")
	}
	if got := cells.Diff(all, odd); !slices.Equal(got, erase) {
		t.Errorf("P12.3: Diff to a long list is another list")
	}
	if got := cells.Put(all, all[n:n+1]); !slices.Equal(got, all) {
		t.Errorf("P12.3: Put of one write is another list")
	}
	// A bad cell at the end of a long list.
	twice, zero := append(slices.Clone(all), all[n]), append(slices.Clone(all), none(lastId, 1))
	if cells.Writes(twice) || !cells.Writes(zero) || cells.Valid(zero) {
		t.Errorf("P12.1: Writes and Valid of long lists are %t, %t and %t", cells.Writes(twice), cells.Writes(zero), cells.Valid(zero))
	}
}

// guarded returns a copy of l in the middle of a longer slice, and that slice.
func guarded(l []api.Cell) (part, whole []api.Cell) {
	guard := cell(idA, 3, text("guard"))
	whole = append([]api.Cell{guard}, l...)
	whole = append(whole, guard, guard, guard)
	return whole[1 : len(l)+1], whole
}

// TestArguments looks for arguments that are changed, for results that share
// memory with them, and for elements behind the end of a slice.
func TestArguments(t *testing.T) {
	r := rand.New(rand.NewSource(15))
	for i := range 300 {
		a, b := randomCells(r, i%20, false), randomCells(r, i%20, false)
		if i%3 == 0 {
			b = change(r, a, 2)
		}
		if i%5 == 0 {
			b = nil
		}
		partA, wholeA := guarded(a)
		partB, wholeB := guarded(b)
		beforeA, beforeB := slices.Clone(wholeA), slices.Clone(wholeB)
		check(t, partA, partB)
		id := idA
		if len(a) > 0 {
			id = a[0].Id
		}
		for _, result := range [][]api.Cell{cells.Put(partA, partB), cells.Put(partB, partA), cells.Diff(partA, partB), cells.Diff(partB, partA), cells.Of(partA, id)} {
			result = result[:cap(result)]
			for k := range result {
				result[k] = cell(idB, 4, text("changed"))
			}
		}
		if !slices.Equal(wholeA, beforeA) || !slices.Equal(wholeB, beforeB) {
			t.Fatalf("R2: the arguments became %v and %v", wholeA, wholeB)
		}
	}
	l := sample()
	one, two := cells.Of(l, idB), cells.Of(l, idB)
	one[0] = cell(idC, 1, text("changed"))
	if !slices.Equal(two, sample()[2:5]) || !slices.Equal(l, sample()) {
		t.Errorf("R2: two results of Of share memory")
	}
}
