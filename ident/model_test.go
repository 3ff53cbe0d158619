package ident_test

import (
	"math/big"
	"regexp"
	"strconv"
	"strings"
	"testing"

	"semvcs/api"
	"semvcs/ident"
)

// id is an id with its parts, made without the package.
type id struct {
	id, site, n int
}

// each calls f with all ids in ascending order.
func each(f func(id)) {
	i := unit
	for site := 1; site <= api.MaxSites; site++ {
		for n := 1; n <= api.MaxSerial; n++ {
			f(id{i + n, site, n})
		}
		i += unit
	}
}

func (x id) text() string {
	return strconv.Itoa(x.site) + "." + strconv.Itoa(x.n)
}

// find returns the id x, or false if x is not one. It divides, where the
// package shifts.
func find(x int) (id, bool) {
	site, n := x/unit, x%unit
	if site < 1 || site > api.MaxSites || n < 1 {
		return id{}, false
	}
	return id{x, site, n}, true
}

func TestAllIds(t *testing.T) {
	last := 0
	each(func(x id) {
		got, e := ident.Make(x.site, x.n)
		if got != x.id || e != api.OK {
			t.Fatalf("P10.1: Make(%d, %d) is %d, %d", x.site, x.n, got, e)
		}
		if got <= last {
			t.Fatalf("Consequences: %d is not above %d", got, last)
		}
		for between := last + 1; between < got; between++ {
			if ident.Valid(between) || ident.Site(between) != 0 || ident.Serial(between) != 0 {
				t.Fatalf("P10.1: %d is an id", between)
			}
		}
		last = got
		if !ident.Valid(got) || ident.Site(got) != x.site || ident.Serial(got) != x.n {
			t.Fatalf("P10.1: the parts of %d are %t, %d and %d", got, ident.Valid(got), ident.Site(got), ident.Serial(got))
		}
	})
	for x := range last + 4*unit {
		if x > last && ident.Valid(x) || ident.Valid(-x) {
			t.Fatalf("P10.1: %d or %d is an id", x, -x)
		}
	}
}

func TestTextsOfIds(t *testing.T) {
	each(func(x id) {
		if x.n > 1100 && x.n < unit-1100 && x.n%97 != x.site {
			return
		}
		text := ident.Format(x.id)
		if text != x.text() {
			t.Fatalf("P10.3: Format(%d) is %q", x.id, text)
		}
		if got, e := ident.Parse(text); got != x.id || e != api.OK {
			t.Fatalf("P10.3: Parse(%q) is %d, %d", text, got, e)
		}
	})
}

func TestAllPairsOfNumbers(t *testing.T) {
	l := numbers()
	for _, a := range l {
		if _, ok := find(a); !ok && (ident.Valid(a) || ident.Site(a) != 0 || ident.Serial(a) != 0 || ident.Format(a) != "") {
			t.Errorf("P10.1, P10.3: %d is told to be an id", a)
		}
		for _, b := range l {
			checkMake(t, a, b)
			checkNext(t, a, b)
		}
	}
}

func checkMake(t *testing.T, site, n int) {
	t.Helper()
	want, e := 0, api.ErrArg
	if site >= 1 && site <= api.MaxSites && n >= 1 && n <= api.MaxSerial {
		want, e = unit*site+n, api.OK
	}
	if got, is := ident.Make(site, n); got != want || is != e {
		t.Errorf("P10.1: Make(%d, %d) is %d, %d", site, n, got, is)
	}
}

// checkNext compares Next with the promise in numbers that do not overflow.
func checkNext(t *testing.T, a, n int) {
	t.Helper()
	want, e := 0, api.ErrArg
	x, ok := find(a)
	alone := !ok && a%unit == 0 && a/unit >= 1 && a/unit <= api.MaxSites
	serial := new(big.Int).Add(big.NewInt(int64(x.n)), big.NewInt(int64(n)))
	switch {
	case !ok && !alone || n < 0:
	case serial.Cmp(big.NewInt(api.MaxSerial)) > 0:
		e = api.ErrFull
	case serial.Sign() > 0:
		want, e = a+n, api.OK
	}
	if got, is := ident.Next(a, n); got != want || is != e {
		t.Errorf("P10.2: Next(%d, %d) is %d, %d", a, n, got, is)
	}
}

// TestNextOneByOne counts through all ids of a site.
func TestNextOneByOne(t *testing.T) {
	for _, site := range []int{1, 7, api.MaxSites} {
		x := site * unit
		for n := 1; n <= api.MaxSerial; n++ {
			next, e := ident.Next(x, 1)
			far, _ := ident.Next(site*unit, n)
			if next != x+1 || far != next || e != api.OK {
				t.Fatalf("P10.2: Next(%d, 1) is %d, %d, and %d from the beginning", x, next, e, far)
			}
			x = next
		}
		if next, e := ident.Next(x, 1); next != 0 || e != api.ErrFull {
			t.Errorf("P10.2: Next(%d, 1) is %d, %d", x, next, e)
		}
	}
}

var allText = regexp.MustCompile(`\A([1-9][0-9]{0,1})\.([1-9][0-9]{0,6})\z`)

// parseModel returns the id whose text is s, or 0.
func parseModel(s string) int {
	parts := allText.FindStringSubmatch(s)
	if parts == nil {
		return 0
	}
	site, _ := strconv.Atoi(parts[1])
	n, _ := strconv.Atoi(parts[2])
	if site > api.MaxSites || n > api.MaxSerial {
		return 0
	}
	return site*unit + n
}

func checkParse(t *testing.T, s string) {
	t.Helper()
	want, e := parseModel(s), api.ErrForm
	if want != 0 {
		e = api.OK
	}
	if got, is := ident.Parse(s); got != want || is != e {
		t.Fatalf("P10.3: Parse(%q) is %d, %d", s, got, is)
	}
	if want != 0 && ident.Format(want) != s {
		t.Fatalf("P10.3: Format(%d) is %q, not %q", want, ident.Format(want), s)
	}
}

func TestParseAllShortTexts(t *testing.T) {
	pieces := []string{"0", "1", "2", "3", "9", ".", "-", "+", " ", "x", "1048575", "1048576"}
	var grow func(string, int)
	grow = func(s string, n int) {
		checkParse(t, s)
		if n > 0 {
			for _, p := range pieces {
				grow(s+p, n-1)
			}
		}
	}
	grow("", 5)
}

// TestParseAllNumbers has all pairs of small numbers, also those that no id has.
func TestParseAllNumbers(t *testing.T) {
	for site := range 120 {
		for n := range 1100 {
			checkParse(t, strconv.Itoa(site)+"."+strconv.Itoa(n))
			checkParse(t, strconv.Itoa(site)+"."+strconv.Itoa(n+unit-550))
		}
	}
}

// TestParseDamagedTexts removes, changes and adds one byte of texts of ids.
func TestParseDamagedTexts(t *testing.T) {
	for _, s := range []string{"1.1", "3.17", "10.10", "32.1048575", "31.999999", "9.104857"} {
		for i := range len(s) + 1 {
			before, behind := s[:i], s[i:]
			for c := range 256 {
				added := string([]byte{byte(c)})
				checkParse(t, before+added+behind)
				if behind != "" {
					checkParse(t, before+added+behind[1:])
				}
			}
			if behind != "" {
				checkParse(t, before+behind[1:])
			}
		}
		for n := range 6 {
			checkParse(t, strings.Repeat(s, n))
			checkParse(t, strings.Repeat("0", n)+s)
			checkParse(t, s+strings.Repeat("0", n))
		}
	}
}
