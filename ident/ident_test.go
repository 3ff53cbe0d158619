package ident_test

import (
	"math"
	"math/bits"
	"slices"
	"strings"
	"testing"

	"semvcs/api"
	"semvcs/ident"
)

// unit is by how much the ids of two neighbouring sites differ.
const unit = 1048576

// wrap is a number whose product with unit is 0 in the arithmetic of int.
const wrap = 1 << (bits.UintSize - 20)

// numbers returns the numbers at which something could change or overflow.
func numbers() []int {
	l := []int{math.MinInt, math.MinInt + 1, -wrap, -wrap + 1, wrap, wrap + 1, math.MaxInt - 1, math.MaxInt}
	for _, n := range []int{0, 1, 3, api.MaxSites, unit, 1 << 21, math.MaxInt32} {
		l = append(l, -n-1, -n, -n+1, n-1, n, n+1)
	}
	for site := -2; site <= api.MaxSites+2; site++ {
		for _, n := range []int{-2, -1, 0, 1, 2, 17, unit / 2} {
			l = append(l, site*unit+n)
		}
	}
	slices.Sort(l)
	return slices.Compact(l)
}

func TestLimits(t *testing.T) {
	if api.MaxSites != 32 || api.MaxSerial != unit-1 {
		t.Errorf("P10.1: the limits are %d and %d", api.MaxSites, api.MaxSerial)
	}
}

func TestExamples(t *testing.T) {
	if id, e := ident.Make(3, 17); id != 3145745 || e != api.OK {
		t.Errorf("P10.1: Make(3, 17) is %d, %d", id, e)
	}
	if got := ident.Format(3145745); got != "3.17" {
		t.Errorf("P10.3: Format(3145745) is %q", got)
	}
	if id, e := ident.Next(3*unit, 1); id != 3145729 || e != api.OK {
		t.Errorf("P10.2: Next(3 * 2^20, 1) is %d, %d", id, e)
	}
	if id, e := ident.Parse("3.017"); id != 0 || e != api.ErrForm {
		t.Errorf("P10.3: Parse of 3.017 is %d, %d", id, e)
	}
}

func TestMake(t *testing.T) {
	for _, x := range []struct {
		site, n, id int
		e           api.Errno
	}{
		{1, 1, 1048577, api.OK},
		{1, 1048575, 2097151, api.OK},
		{2, 1, 2097153, api.OK},
		{17, 1000, 17826792, api.OK},
		{32, 1, 33554433, api.OK},
		{32, 1048575, 34603007, api.OK},

		{0, 1, 0, api.ErrArg},
		{-1, 1, 0, api.ErrArg},
		{33, 1, 0, api.ErrArg},
		{1, 0, 0, api.ErrArg},
		{1, -1, 0, api.ErrArg},
		{1, 1048576, 0, api.ErrArg},
		{1, 1048577, 0, api.ErrArg},
		{0, 1048577, 0, api.ErrArg},
		{0, 0, 0, api.ErrArg},
		{wrap + 1, 1, 0, api.ErrArg},
		{1 - wrap, 1, 0, api.ErrArg},
		{1, math.MaxInt, 0, api.ErrArg},
		{1, math.MinInt, 0, api.ErrArg},
		{1, math.MinInt + 1, 0, api.ErrArg},
		{math.MaxInt, 1, 0, api.ErrArg},
		{math.MinInt, 1, 0, api.ErrArg},
		{math.MinInt + 1, 1, 0, api.ErrArg},
	} {
		if id, e := ident.Make(x.site, x.n); id != x.id || e != x.e {
			t.Errorf("P10.1: Make(%d, %d) is %d, %d", x.site, x.n, id, e)
		}
	}
}

func TestParts(t *testing.T) {
	for _, x := range []struct {
		id, site, n int
		text        string
	}{
		{1048577, 1, 1, "1.1"},
		{1048586, 1, 10, "1.10"},
		{2097151, 1, 1048575, "1.1048575"},
		{2097153, 2, 1, "2.1"},
		{10485859, 10, 99, "10.99"},
		{10486760, 10, 1000, "10.1000"},
		{34603007, 32, 1048575, "32.1048575"},

		{0, 0, 0, ""},
		{1, 0, 0, ""},
		{17, 0, 0, ""},
		{-1, 0, 0, ""},
		{1048575, 0, 0, ""},
		{1048576, 0, 0, ""},
		{2097152, 0, 0, ""},
		{33554432, 0, 0, ""},
		{34603008, 0, 0, ""},
		{34603009, 0, 0, ""},
		{-1048577, 0, 0, ""},
		{-3145745, 0, 0, ""},
		{math.MaxInt, 0, 0, ""},
		{math.MinInt, 0, 0, ""},
		{math.MinInt + 1048577, 0, 0, ""},
	} {
		if got := ident.Valid(x.id); got != (x.site > 0) {
			t.Errorf("P10.1: Valid(%d) is %t", x.id, got)
		}
		if site, n := ident.Site(x.id), ident.Serial(x.id); site != x.site || n != x.n {
			t.Errorf("P10.1: Site and Serial of %d are %d and %d", x.id, site, n)
		}
		if got := ident.Format(x.id); got != x.text {
			t.Errorf("P10.3: Format(%d) is %q", x.id, got)
		}
	}
}

func TestNext(t *testing.T) {
	for _, x := range []struct {
		id, n, next int
		e           api.Errno
	}{
		{3*unit + 17, 1, 3*unit + 18, api.OK},
		{3*unit + 17, 0, 3*unit + 17, api.OK},
		{3*unit + 17, 1000, 3*unit + 1017, api.OK},
		{3*unit + 17, unit - 18, 4*unit - 1, api.OK},
		{4*unit - 1, 0, 4*unit - 1, api.OK},
		{3 * unit, 1, 3*unit + 1, api.OK},
		{3 * unit, unit - 1, 4*unit - 1, api.OK},
		{unit, 1, unit + 1, api.OK},
		{32 * unit, 1, 32*unit + 1, api.OK},
		{33*unit - 2, 1, 33*unit - 1, api.OK},

		{0, 1, 0, api.ErrArg},
		{17, 1, 0, api.ErrArg},
		{unit - 1, 2, 0, api.ErrArg},
		{-unit, 1, 0, api.ErrArg},
		{33 * unit, 1, 0, api.ErrArg},
		{33*unit + 17, 1, 0, api.ErrArg},
		{math.MaxInt, 1, 0, api.ErrArg},
		{math.MinInt, 1, 0, api.ErrArg},
		{3*unit + 17, -1, 0, api.ErrArg},
		{3*unit + 17, math.MinInt, 0, api.ErrArg},
		{4*unit - 1, -1, 0, api.ErrArg},
		{3 * unit, -1, 0, api.ErrArg},

		// Of two errors the first one is told.
		{0, unit, 0, api.ErrArg},
		{0, 0, 0, api.ErrArg},
		{33*unit + 17, unit, 0, api.ErrArg},
		{math.MaxInt, math.MaxInt, 0, api.ErrArg},
		{-unit, math.MaxInt, 0, api.ErrArg},

		{4*unit - 1, 1, 0, api.ErrFull},
		{3*unit + 17, unit - 17, 0, api.ErrFull},
		{3*unit + 17, unit, 0, api.ErrFull},
		{3*unit + 17, math.MaxInt, 0, api.ErrFull},
		{3*unit + 1, math.MaxInt, 0, api.ErrFull},
		{33*unit - 1, 1, 0, api.ErrFull},
		{3 * unit, unit, 0, api.ErrFull},
		{3 * unit, unit + 1, 0, api.ErrFull},
		{3 * unit, math.MaxInt, 0, api.ErrFull},

		{3 * unit, 0, 0, api.ErrArg},
		{unit, 0, 0, api.ErrArg},
		{32 * unit, 0, 0, api.ErrArg},
	} {
		if id, e := ident.Next(x.id, x.n); id != x.next || e != x.e {
			t.Errorf("P10.2: Next(%d, %d) is %d, %d", x.id, x.n, id, e)
		}
	}
}

func TestParse(t *testing.T) {
	for s, want := range map[string]int{
		"1.1":        unit + 1,
		"3.17":       3*unit + 17,
		"3.10":       3*unit + 10,
		"10.100":     10*unit + 100,
		"1.1048575":  2*unit - 1,
		"32.1":       32*unit + 1,
		"32.1048575": 33*unit - 1,
	} {
		if id, e := ident.Parse(s); id != want || e != api.OK {
			t.Errorf("P10.3: Parse(%q) is %d, %d", s, id, e)
		}
	}
	for _, s := range []string{
		"", ".", "3", "3.", ".17", "..", "3..17", "3.17.", ".3.17", "3.17.1", "3,17", "317",
		"0.1", "1.0", "0.0", "33.1", "32.1048576", "1.1048576", "1.1048577", "1.10485750", "100.1", "1048577.1",
		"03.17", "3.017", "00.1", "3.00", "3.0017", "003.17",
		"+3.17", "3.+17", "-3.17", "3.-17", "3.17-", "3.17+",
		" 3.17", "3.17 ", "3. 17", "3 .17", "3.17\n", "\t3.17", "3.17\x00", "\x003.17", "3.1\x007",
		"0x3.17", "3.0x11", "3.1e1", "3.1_7", "a.b", "3.a", "a.17", "3.17a", "3.1a7",
		"/.1", ":.1", "1./", "1.:", "1.1/", "1.1:",
		"\u0663.\u0661\u0667", "3.\uff11\uff17", "3\uff0e17", "3.1\xff",
		"4294967297.1", "1.4294967297", "18446744073709551617.1", "1.18446744073709551617", "1.9223372036854775809", "3.340282366920938463463374607431768211473",
		"3145745",
	} {
		if id, e := ident.Parse(s); id != 0 || e != api.ErrForm {
			t.Errorf("P10.3: Parse(%q) is %d, %d", s, id, e)
		}
	}
}

func TestParseLongTexts(t *testing.T) {
	for _, c := range []string{"0", "1", "9", ".", "a"} {
		long := strings.Repeat(c, 1<<22)
		for _, s := range []string{long, long + ".1", "1." + long, "1.1" + long, "1" + long + ".1", "1.1." + long} {
			if id, e := ident.Parse(s); id != 0 || e != api.ErrForm {
				t.Errorf("P10.3: Parse(%.10q...) is %d, %d", s, id, e)
			}
		}
	}
}
