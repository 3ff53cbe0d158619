package position_test

import (
	"slices"
	"strings"
	"testing"

	"semvcs/api"
	"semvcs/position"
)

// run returns n letters.
func run(letter string, n int) string {
	return strings.Repeat(letter, n)
}

func TestLimits(t *testing.T) {
	if api.MaxKey != 60 {
		t.Errorf("P11.1: the limit is %d", api.MaxKey)
	}
}

func TestExamples(t *testing.T) {
	for _, x := range []struct{ lo, hi, want string }{{"", "", "n"}, {"b", "c", "bn"}, {"ab", "b", "an"}} {
		if got, e := position.Between(x.lo, x.hi); got != x.want || e != api.OK {
			t.Errorf("P11.2: Between(%q, %q) is %q, %d", x.lo, x.hi, got, e)
		}
	}
	if got := position.Spread(2); !slices.Equal(got, []string{"ir", "ri"}) {
		t.Errorf("P11.3: Spread(2) is %q", got)
	}
	if got := position.Keep([]string{"m", "c", "", "f"}); !slices.Equal(got, []bool{false, true, false, true}) {
		t.Errorf("P11.4: Keep of m, c, nothing and f is %t", got)
	}
}

// keys and others are strings that are keys and strings that are none.
func keys() []string {
	return []string{
		"b", "n", "z", "ab", "az", "bb", "zz", "aaab", "zab", "hello", "qwertyuiop",
		run("b", 59), run("b", 60), run("z", 60), run("a", 59) + "b", run("a", 58) + "b",
	}
}

func others() []string {
	return []string{
		"", "a", "aa", "ba", "za", "bca", run("a", 59), run("a", 60), run("b", 59) + "a",
		run("b", 61), run("z", 61), run("a", 60) + "b", run("b", 1<<20),
		"B", "Z", "A", "bB", "Bb", "bAb", "0", "b0", "0b", " b", "b ", "b c", "\n", "b\n", "\x00", "b\x00", "\x00b",
		"`", "b`", "`b", "b`c", "{", "b{", "{b", "b{c", "é", "bé", "éb", "\xff", "b\xff", "\xe2b", "b-c", "b.c", "_b",
		"ｂ", "b\u0301", string(rune('b' + 256)), "b" + string(rune('c'+256)) + "d",
	}
}

func TestValid(t *testing.T) {
	for _, s := range keys() {
		if !position.Valid(s) {
			t.Errorf("P11.1: %q is not a key", s)
		}
	}
	for _, s := range others() {
		if position.Valid(s) {
			t.Errorf("P11.1: %q is a key", s)
		}
	}
	for b := range 256 {
		letter := string([]byte{byte(b)})
		lower := "a" <= letter && letter <= "z"
		if got := position.Valid(letter); got != (lower && letter != "a") {
			t.Errorf("P11.1: Valid(%q) is %t", letter, got)
		}
		for _, s := range []string{letter + "b", "b" + letter + "b", run("z", 58) + letter + "b", letter + run("a", 58) + "z"} {
			if got := position.Valid(s); got != lower {
				t.Errorf("P11.1: Valid(%q) is %t", s, got)
			}
		}
	}
}

func TestBetween(t *testing.T) {
	for _, x := range []struct{ lo, hi, want string }{
		{"", "", "n"},
		{"", "z", "m"},
		{"", "n", "g"},
		{"", "d", "b"},
		{"", "c", "b"},
		{"", "b", "an"},
		{"", "an", "ag"},
		{"", "ac", "ab"},
		{"", "ab", "aan"},
		{"", "aab", "aaan"},
		{"", "bb", "b"},
		{"", "aaz", "aam"},
		{"b", "", "n"},
		{"c", "", "o"},
		{"n", "", "t"},
		{"x", "", "y"},
		{"y", "", "z"},
		{"z", "", "zn"},
		{"zz", "", "zzn"},
		{"zy", "", "zz"},
		{"zb", "", "zn"},
		{"ab", "", "n"},
		{"yz", "", "z"},
		{"yzzzz", "", "z"},

		{"b", "d", "c"},
		{"b", "e", "c"},
		{"b", "f", "d"},
		{"b", "z", "n"},
		{"b", "bb", "ban"},
		{"b", "bc", "bb"},
		{"b", "bab", "baan"},
		{"b", "bn", "bg"},
		{"b", "bz", "bm"},
		{"bz", "c", "bzn"},
		{"bz", "cb", "c"},
		{"bz", "d", "c"},
		{"by", "c", "bz"},
		{"bb", "bc", "bbn"},
		{"bb", "bd", "bc"},
		{"az", "b", "azn"},
		{"az", "bb", "b"},
		{"az", "c", "b"},
		{"azz", "b", "azzn"},
		{"azy", "b", "azz"},
		{"aab", "b", "an"},
		{"ab", "ac", "abn"},
		{"abz", "ac", "abzn"},
		{"abzzz", "acb", "ac"},
		{"abzzz", "ac", "abzzzn"},
		{"bn", "bnb", "bnan"},
		{"bcd", "bcf", "bce"},
		{"bcdefg", "bcx", "bcn"},
		{"bcdefg", "x", "m"},
		{"hello", "help", "heln"},
		{"hello", "helm", "hellu"},
	} {
		got, e := position.Between(x.lo, x.hi)
		if got != x.want || e != api.OK {
			t.Errorf("P11.2: Between(%q, %q) is %q, %d instead of %q", x.lo, x.hi, got, e, x.want)
		}
	}
}

func TestBetweenAtTheLimit(t *testing.T) {
	for _, x := range []struct {
		lo, hi, want string
		e            api.Errno
	}{
		{run("z", 58), "", run("z", 58) + "n", api.OK},
		{run("z", 59), "", run("z", 59) + "n", api.OK},
		{run("z", 59) + "x", "", run("z", 59) + "y", api.OK},
		{run("z", 59) + "y", "", run("z", 60), api.OK},
		{run("z", 60), "", "", api.ErrFull},
		{"", run("a", 58) + "b", run("a", 59) + "n", api.OK},
		{"", run("a", 59) + "z", run("a", 59) + "m", api.OK},
		{"", run("a", 59) + "c", run("a", 59) + "b", api.OK},
		{"", run("a", 59) + "b", "", api.ErrFull},
		{run("z", 60), run("z", 60), "", api.ErrOrder},
		{"b", "b" + run("a", 58) + "c", "b" + run("a", 58) + "b", api.OK},
		{"b", "b" + run("a", 58) + "b", "", api.ErrFull},
		{"b", "b" + run("a", 57) + "b", "b" + run("a", 58) + "n", api.OK},
		{"b" + run("z", 58), "c", "b" + run("z", 58) + "n", api.OK},
		{"b" + run("z", 59), "c", "", api.ErrFull},
		{"b" + run("z", 59), "c" + run("a", 58) + "b", "c", api.OK},
		{run("m", 59) + "b", run("m", 59) + "c", "", api.ErrFull},
		{run("m", 59) + "b", run("m", 59) + "d", run("m", 59) + "c", api.OK},
		{run("m", 58) + "b", run("m", 58) + "c", run("m", 58) + "bn", api.OK},
		{run("m", 58) + "bz", run("m", 58) + "c", "", api.ErrFull},
		{run("m", 58) + "by", run("m", 58) + "c", run("m", 58) + "bz", api.OK},
		{run("m", 58) + "bz", run("m", 58) + "cb", run("m", 58) + "c", api.OK},
		{run("m", 59), run("m", 59) + "b", "", api.ErrFull},
		{run("m", 59), run("m", 60), run("m", 59) + "g", api.OK},
	} {
		if got, e := position.Between(x.lo, x.hi); got != x.want || e != x.e {
			t.Errorf("P11.2: Between(%q, %q) is %q, %d instead of %q, %d", x.lo, x.hi, got, e, x.want, x.e)
		}
	}
}

func TestBetweenErrors(t *testing.T) {
	check := func(lo, hi string, want api.Errno) {
		t.Helper()
		if got, e := position.Between(lo, hi); got != "" || e != want {
			t.Errorf("P11.2: Between(%.70q, %.70q) is %q, %d instead of %d", lo, hi, got, e, want)
		}
	}
	for _, s := range others() {
		if s == "" {
			continue
		}
		for _, key := range append(keys(), "") {
			check(s, key, api.ErrArg)
			check(key, s, api.ErrArg)
		}
		// Two strings that are no keys in the wrong order are ErrArg, too.
		check(s, s, api.ErrArg)
		check(s, "a", api.ErrArg)
		check("a", s, api.ErrArg)
	}
	for _, a := range keys() {
		check(a, a, api.ErrOrder)
		for _, b := range keys() {
			if a > b {
				check(a, b, api.ErrOrder)
			}
		}
	}
	// A key that is too long is an error ahead of the order and of the room.
	check(run("z", 61), run("z", 60), api.ErrArg)
	check(run("z", 60), run("z", 61), api.ErrArg)
	check(run("z", 61), "", api.ErrArg)
	check("", run("a", 60)+"b", api.ErrArg)
}

func TestSpread(t *testing.T) {
	for _, x := range []struct {
		n    int
		want []string
	}{
		{0, nil},
		{1, []string{"nb"}},
		{2, []string{"ir", "ri"}},
		{3, []string{"gn", "mz", "tm"}},
		{4, []string{"fg", "kl", "pq", "uv"}},
		{5, []string{"ej", "ir", "mz", "ri", "vq"}},
		{9, []string{"cq", "fg", "hv", "kl", "nb", "pq", "sg", "uv", "xl"}},
		{12, []string{"cb", "eb", "gb", "ib", "kb", "mb", "ob", "qb", "sb", "ub", "wb", "yb"}},
	} {
		if got := position.Spread(x.n); !slices.Equal(got, x.want) {
			t.Errorf("P11.3: Spread(%d) is %q instead of %q", x.n, got, x.want)
		}
	}
	for _, n := range []int{-1 << 63, -401, -400, -2, -1, 401, 402, 648, 649, 650, 651, 1 << 40, 1<<63 - 2, 1<<63 - 1} {
		if got := position.Spread(n); len(got) != 0 {
			t.Errorf("P11.3: Spread(%d) is %q", n, got)
		}
	}
}

// words makes a list of words; the word 0 stands for the empty string.
func words(s string) []string {
	l := strings.Fields(s)
	for i, word := range l {
		if word == "0" {
			l[i] = ""
		}
	}
	return l
}

// stays returns a letter x for each element that stays, and a dot for each
// other one.
func stays(l []bool) string {
	var text strings.Builder
	for _, stay := range l {
		if stay {
			text.WriteByte('x')
		} else {
			text.WriteByte('.')
		}
	}
	return text.String()
}

func TestKeep(t *testing.T) {
	for _, x := range []struct{ keys, want string }{
		{"", ""},
		{"b", "x"},
		{"0", "."},
		{"0 0 0", "..."},
		{"a", "."},
		{"ba B b0 b", "...x"},
		{"b c d", "xxx"},
		{"d c b", "x.."},
		{"b b b", "x.."},
		{"b b c c", "x.x."},
		{"c b", "x."},
		{"c b d", "x.x"},
		{"c d b", "xx."},
		{"m c 0 f", ".x.x"},
		{"c d b e", "xx.x"},
		{"b z c", "xx."},
		{"b z c d", "x.xx"},
		{"c d e f b", "xxxx."},
		{"f b c d e", ".xxxx"},
		{"c d b c d", "..xxx"},
		{"d e b c", "xx.."},
		{"d b e c f", "x.x.x"},
		{"e f c d b", "xx..."},
		{"b e c f d g", "xx.x.x"},
		{"b 0 c 0 d", "x.x.x"},
		{"b ca d", "x.x"},
		{"b c{ d", "x.x"},
		{"~ b zzz~ c", ".x.x"},
		{"b bb bbb bb c", "xxx.x"},
		{"bb b bbb", "x.x"},
		{"ab b bb c", "xxxx"},
		{"z zz zb zc zd", "x.xxx"},
	} {
		if got := stays(position.Keep(words(x.keys))); got != x.want {
			t.Errorf("P11.4: Keep(%s) is %s instead of %s", x.keys, got, x.want)
		}
	}
	l := []string{run("a", 59) + "b", run("b", 61), run("b", 60), run("c", 59) + "a", run("z", 60)}
	if got := stays(position.Keep(l)); got != "x.x.x" {
		t.Errorf("P11.4: Keep of keys at the limit is %s", got)
	}
}

func TestRekey(t *testing.T) {
	for _, x := range []struct{ keys, want string }{
		{"", ""},
		{"b", "b"},
		{"0", "n"},
		{"a", "n"},
		{"b c d", "b c d"},
		{"0 0 0", "n t w"},
		{"0 0 0 0 0 0", "n t w y z zn"},
		{"b 0 c", "b bn c"},
		{"b 0 0 c", "b bn bt c"},
		{"0 b", "an b"},
		{"0 0 b", "an at b"},
		{"b 0", "b n"},
		{"z 0 0", "z zn zt"},
		{"m c 0 f", "b c d f"},
		{"m c x f", "m r x y"},
		{"c b", "c o"},
		{"b b b", "b n t"},
		{"d c b", "d o u"},
		{"f b c", "an b c"},
		{"b ~ c", "b bn c"},
		{"c ba d", "c cn d"},
		{"0 m 0 n 0", "g m mn n t"},
		{"b z c d", "b bn c d"},
	} {
		if got := position.Rekey(words(x.keys)); !slices.Equal(got, words(x.want)) {
			t.Errorf("P11.5: Rekey(%s) is %q instead of %s", x.keys, got, x.want)
		}
	}
}

func TestRekeyLengths(t *testing.T) {
	for _, n := range []int{300, 301, 399, 400} {
		l := make([]string, n)
		got := position.Rekey(l)
		// Behind the last key there is room for five keys with each number of
		// letters, so for 300 in all.
		if want := position.Spread(n); (n > 300) != slices.Equal(got, want) || len(got) != n {
			t.Errorf("P11.5: Rekey of %d empty strings is %q", n, got)
		}
		checkRekey(t, l)
	}
	for _, n := range []int{401, 402, 1000, 1 << 17} {
		if got := position.Rekey(make([]string, n)); len(got) != 0 {
			t.Errorf("P11.5: Rekey of %d elements returns %d", n, len(got))
		}
	}
	l := position.Spread(400)
	checkRekey(t, l)
	if got := position.Rekey(append(l, "zzz")); len(got) != 0 {
		t.Errorf("P11.5: Rekey of 401 ascending keys is %q", got)
	}
	l[200] = "b"
	checkRekey(t, l)
	slices.Reverse(l)
	checkRekey(t, l)
}

// TestKeepLongLists has lists for which a look at each pair of elements would
// take minutes.
func TestKeepLongLists(t *testing.T) {
	const n = 300000
	up, down := make([]string, n), make([]string, n)
	for i := range n {
		up[i] = letters(i) + "b"
		down[n-1-i] = up[i]
	}
	if got := stays(position.Keep(up)); got != run("x", n) {
		t.Errorf("P11.4: not all of %d ascending keys stay", n)
	}
	if got := stays(position.Keep(down)); got != "x"+run(".", n-1) {
		t.Errorf("P11.4: of %d descending keys not only the first one stays", n)
	}
	both := append(slices.Clone(down), up...)
	if got := stays(position.Keep(both)); got != run(".", n-1)+"x."+run("x", n-1) {
		t.Errorf("P11.4: of %d descending and as many ascending keys others stay", n)
	}
	if got := stays(position.Keep(make([]string, n))); got != run(".", n) {
		t.Errorf("P11.4: of %d empty strings one stays", n)
	}
}

// letters returns four letters that ascend with n.
func letters(n int) string {
	l := make([]byte, 4)
	for i := range l {
		l[3-i] = byte('a' + n%26)
		n /= 26
	}
	return string(l)
}

// TestArguments looks for arguments that are changed, for results that share
// memory with them or with another result, and for elements behind the end of a
// slice.
func TestArguments(t *testing.T) {
	before := words("m c 0 f b a z zz q")
	l := slices.Clone(before)
	part := l[2:6]
	stay, result := position.Keep(part), position.Rekey(part)
	if !slices.Equal(l, before) {
		t.Errorf("R2: the argument became %q", l)
	}
	if stays(stay) != ".x.." || !slices.Equal(result, words("c f p u")) {
		t.Errorf("R2, P11.4, P11.5: Keep and Rekey of a part are %t and %q", stay, result)
	}
	for _, keys := range [][]string{words("b c d"), words("0 0"), words("d c")} {
		for _, returned := range [][]string{position.Rekey(keys), position.Rekey(keys), position.Spread(len(keys))} {
			first := keys[0]
			for i := range returned {
				returned[i] = "changed"
			}
			if keys[0] != first {
				t.Errorf("R2: Rekey returns the memory of its argument")
			}
		}
	}
	one, two := position.Spread(3), position.Spread(3)
	one[0] = "changed"
	if two[0] != "gn" || position.Spread(3)[0] != "gn" {
		t.Errorf("R2: two results of Spread share memory")
	}
}

func TestRekeyWithoutRoom(t *testing.T) {
	last, first := run("z", 60), run("a", 59)+"b"
	for _, l := range [][]string{
		{last, ""},
		{"", first},
		{first, "", run("a", 59) + "c"},
		{"b", "", "b" + run("a", 58) + "b", ""},
		{"b", "c", last, "d{"},
		{"c", "b", "", first, last, ""},
		{run("z", 59) + "x", "", "", ""},
	} {
		if got := position.Rekey(l); !slices.Equal(got, position.Spread(len(l))) {
			t.Errorf("P11.5: Rekey(%q) is %q", l, got)
		}
	}
	enough := []string{run("z", 59) + "x", "", ""}
	if got := position.Rekey(enough); !slices.Equal(got, []string{enough[0], run("z", 59) + "y", last}) {
		t.Errorf("P11.5: Rekey(%q) is %q", enough, got)
	}
}
