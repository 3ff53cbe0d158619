package position_test

import (
	"fmt"
	"math/big"
	"math/rand"
	"regexp"
	"slices"
	"testing"

	"semvcs/api"
	"semvcs/position"
)

var form = regexp.MustCompile(`^[a-z]{0,59}[b-z]$`)

func isKey(s string) bool { return form.MatchString(s) }

// A key of n letters has a rank among all keys of n letters: its last letter
// has 25 values, and each other one 26.

// below returns how many keys of n letters are less than the key s, or how many
// there are, if s is empty.
func below(s string, n int) *big.Int {
	if s == "" {
		return below(run("z", n+1), n)
	}
	count := new(big.Int)
	for i := range n {
		base, digit := 26, 0
		if i < len(s) {
			digit = int(s[i] - 'a')
		}
		if i == n-1 {
			base = 25
		}
		// The last letters from b up to that of s: if s goes on behind it, it is
		// itself one of them.
		if i == n-1 && len(s) == n {
			digit--
		}
		count.Mul(count, big.NewInt(int64(base)))
		count.Add(count, big.NewInt(int64(digit)))
	}
	return count
}

// keyOf returns the key of n letters with a rank.
func keyOf(rank *big.Int, n int) string {
	letters := make([]byte, n)
	rest, digit := new(big.Int).Set(rank), new(big.Int)
	for i := n - 1; i >= 0; i-- {
		base, first := int64(26), byte('a')
		if i == n-1 {
			base, first = 25, 'b'
		}
		rest.DivMod(rest, big.NewInt(base), digit)
		letters[i] = first + byte(digit.Int64())
	}
	return string(letters)
}

// upTo returns how many keys of n letters are less than or equal to lo.
func upTo(lo string, n int) *big.Int {
	if lo == "" {
		return new(big.Int)
	}
	count := below(lo, n)
	if len(lo) == n {
		count.Add(count, big.NewInt(1))
	}
	return count
}

// between is Between by counting.
func between(lo, hi string) (string, api.Errno) {
	if lo != "" && !isKey(lo) || hi != "" && !isKey(hi) {
		return "", api.ErrArg
	}
	if lo != "" && hi != "" && lo >= hi {
		return "", api.ErrOrder
	}
	for n := 1; n <= 60; n++ {
		low := upTo(lo, n)
		count := new(big.Int).Sub(below(hi, n), low)
		if count.Sign() <= 0 {
			continue
		}
		index := count.Sub(count, big.NewInt(1))
		index.Rsh(index, 1)
		return keyOf(index.Add(index, low), n), api.OK
	}
	return "", api.ErrFull
}

func checkBetween(t *testing.T, lo, hi string) {
	t.Helper()
	want, e := between(lo, hi)
	got, is := position.Between(lo, hi)
	if got != want || is != e {
		t.Fatalf("P11.2: Between(%q, %q) is %q, %d instead of %q, %d", lo, hi, got, is, want, e)
	}
	if is == api.OK && (!position.Valid(got) || got <= lo || hi != "" && got >= hi) {
		t.Fatalf("P11.2: Between(%q, %q) is %q", lo, hi, got)
	}
	if is == api.ErrFull && len(lo) < api.MaxKey && len(hi) < api.MaxKey {
		t.Fatalf("Consequences: there is no key between %q and %q", lo, hi)
	}
}

// allKeys returns the keys of up to n letters of an alphabet, ascending.
func allKeys(alphabet string, n int) []string {
	var l []string
	words := []string{""}
	for range n {
		var longer []string
		for _, word := range words {
			for _, letter := range alphabet {
				longer = append(longer, word+string(letter))
			}
		}
		words = longer
		for _, word := range words {
			if isKey(word) {
				l = append(l, word)
			}
		}
	}
	slices.Sort(l)
	return l
}

// TestCounting compares the counts of the model with lists of all keys.
func TestCounting(t *testing.T) {
	all := allKeys("abcdefghijklmnopqrstuvwxyz", 3)
	for n := 1; n <= 3; n++ {
		var l []string
		for _, key := range all {
			if len(key) == n {
				if got := keyOf(big.NewInt(int64(len(l))), n); got != key {
					t.Fatalf("the key %d of %d letters is %q, not %q", len(l), n, got, key)
				}
				l = append(l, key)
			}
		}
		if got := below("", n); got.Int64() != int64(len(l)) {
			t.Fatalf("there are %v keys of %d letters", got, n)
		}
		for _, s := range all {
			i, found := slices.BinarySearch(l, s)
			if got := below(s, n); got.Int64() != int64(i) {
				t.Fatalf("%v keys of %d letters are below %q, not %d", got, n, s, i)
			}
			if found {
				i++
			}
			if got := upTo(s, n); got.Int64() != int64(i) {
				t.Fatalf("%v keys of %d letters are up to %q, not %d", got, n, s, i)
			}
		}
	}
}

func TestBetweenAllShortKeys(t *testing.T) {
	for _, l := range [][]string{
		append(allKeys("abcdefghijklmnopqrstuvwxyz", 2), ""),
		append(allKeys("abyz", 4), ""),
		append(allKeys("bz", 5), ""),
	} {
		// All pairs of the first list would take seconds: of each key a part of
		// the others, which moves on.
		for i, lo := range l {
			for k := i % 5; k < len(l); k += 5 {
				checkBetween(t, lo, l[k])
				checkBetween(t, l[k], lo)
			}
		}
	}
}

// randomKey returns a key of up to n letters, often of few different ones.
func randomKey(r *rand.Rand, n int) string {
	alphabet := []string{"az", "abz", "abcxyz", "abcdefghijklmnopqrstuvwxyz"}[r.Intn(4)]
	letters := make([]byte, 1+r.Intn(n))
	for i := range letters {
		letters[i] = alphabet[r.Intn(len(alphabet))]
	}
	if letters[len(letters)-1] == 'a' {
		letters[len(letters)-1] = "bmz"[r.Intn(3)]
	}
	return string(letters)
}

// nearKey returns a key that shares a beginning with key.
func nearKey(r *rand.Rand, key string) string {
	s := key[:r.Intn(len(key)+1)] + run([]string{"a", "z"}[r.Intn(2)], r.Intn(61)) + randomKey(r, 3)
	if len(s) > 60 {
		return s[:59] + []string{"b", "c", "y", "z"}[r.Intn(4)]
	}
	return s
}

func TestBetweenRandomKeys(t *testing.T) {
	r := rand.New(rand.NewSource(11))
	full := 0
	for range 6000 {
		lo := randomKey(r, 60)
		hi := nearKey(r, lo)
		if lo > hi {
			lo, hi = hi, lo
		}
		checkBetween(t, lo, hi)
		checkBetween(t, hi, lo)
		checkBetween(t, lo, "")
		checkBetween(t, "", hi)
		if _, e := position.Between(lo, hi); e == api.ErrFull {
			full++
		}
	}
	if full == 0 {
		t.Errorf("no pair of keys was without a key between")
	}
}

// TestBetweenUntilFull puts keys between two keys, each time below or above the
// last one, until there is no room.
func TestBetweenUntilFull(t *testing.T) {
	r := rand.New(rand.NewSource(12))
	for round := range 12 {
		lo, hi := "", ""
		for count := 0; ; count++ {
			checkBetween(t, lo, hi)
			key, e := position.Between(lo, hi)
			if e == api.ErrFull {
				if max(len(lo), len(hi)) != api.MaxKey || count < 230 {
					t.Fatalf("Consequences: %q and %q are full after %d keys", lo, hi, count)
				}
				break
			}
			if round == 0 || round > 1 && r.Intn(round) == 0 {
				lo = key
			} else {
				hi = key
			}
		}
	}
}

func TestSpreadAll(t *testing.T) {
	for n := range 401 {
		got := position.Spread(n)
		if len(got) != n {
			t.Fatalf("P11.3: Spread(%d) has %d keys", n, len(got))
		}
		d := 650 / (n + 1)
		for i := 1; i <= n; i++ {
			want := fmt.Sprintf("%c%c", 'a'+rune(i*d/25), 'b'+rune(i*d%25))
			if got[i-1] != want || !isKey(want) || i > 1 && got[i-2] >= want {
				t.Fatalf("P11.3: the key %d of Spread(%d) is %q instead of %q", i, n, got[i-1], want)
			}
		}
	}
}

// keepByTrial is Keep by a look at each choice.
func keepByTrial(keys []string) []bool {
	best, most := 0, -1
	// The bit of the first element is the highest one, so that a greater choice
	// is a preferred one.
	for choice := range 1 << len(keys) {
		last, count, ok := "", 0, true
		for i, key := range keys {
			if choice>>(len(keys)-1-i)&1 == 1 {
				ok = ok && isKey(key) && key > last
				last = key
				count++
			}
		}
		if ok && count >= most {
			best, most = choice, count
		}
	}
	stay := make([]bool, len(keys))
	for i := range stay {
		stay[i] = best>>(len(keys)-1-i)&1 == 1
	}
	return stay
}

// keepByTable is Keep by a table of the longest choices that begin at each
// element.
func keepByTable(keys []string) []bool {
	counts := make([]int, len(keys)+1)
	after := func(i int, last string) int {
		best := len(keys)
		for k := len(keys) - 1; k >= i; k-- {
			if isKey(keys[k]) && keys[k] > last && counts[k] >= counts[best] {
				best = k
			}
		}
		return best
	}
	for i := len(keys) - 1; i >= 0; i-- {
		if isKey(keys[i]) {
			counts[i] = 1 + counts[after(i+1, keys[i])]
		}
	}
	stay := make([]bool, len(keys))
	for i := after(0, ""); i < len(keys); i = after(i+1, keys[i]) {
		stay[i] = true
	}
	return stay
}

// eachList calls f with all lists of up to n of some words.
func eachList(words []string, n int, f func([]string)) {
	var grow func([]string)
	grow = func(l []string) {
		f(l)
		if len(l) == n {
			return
		}
		for _, word := range words {
			grow(append(l, word))
		}
	}
	grow(nil)
}

func TestAllShortLists(t *testing.T) {
	for _, x := range []struct {
		words []string
		n     int
	}{
		{[]string{"b", "c", "d", "e"}, 6},
		{[]string{"b", "bb", "c", "", "ba"}, 5},
		{[]string{"b", "c", "d", "e", "f", "zz", "~"}, 4},
		{[]string{run("z", 60), run("a", 59) + "b", "n", "z"}, 4},
	} {
		eachList(x.words, x.n, func(l []string) {
			want := keepByTrial(l)
			if other := keepByTable(l); !slices.Equal(want, other) {
				t.Fatalf("the models give %t and %t for %q", want, other, l)
			}
			if got := position.Keep(l); !slices.Equal(got, want) {
				t.Fatalf("P11.4: Keep(%q) is %t instead of %t", l, got, want)
			}
			checkRekey(t, l)
		})
	}
}

// rekey is Rekey by the models of Keep and Between.
func rekey(keys []string) []string {
	if len(keys) > 400 {
		return nil
	}
	stay := keepByTable(keys)
	result := slices.Clone(keys)
	for i := range keys {
		if stay[i] {
			continue
		}
		lo, hi := "", ""
		if i > 0 {
			lo = result[i-1]
		}
		for k := len(keys) - 1; k > i; k-- {
			if stay[k] {
				hi = keys[k]
			}
		}
		key, e := between(lo, hi)
		if e != api.OK {
			return position.Spread(len(keys))
		}
		result[i] = key
	}
	return result
}

func checkRekey(t *testing.T, keys []string) {
	t.Helper()
	got := position.Rekey(keys)
	if want := rekey(keys); !slices.Equal(got, want) {
		t.Fatalf("P11.5: Rekey(%q) is %q instead of %q", keys, got, want)
	}
	if len(keys) > 400 {
		return
	}
	ascending := true
	for i, key := range got {
		if !position.Valid(key) || i > 0 && got[i-1] >= key {
			t.Fatalf("P11.5: Rekey(%q) is %q", keys, got)
		}
		ascending = ascending && isKey(keys[i]) && (i == 0 || keys[i-1] < keys[i])
	}
	if ascending && !slices.Equal(got, keys) {
		t.Fatalf("Consequences: Rekey(%q) is %q", keys, got)
	}
	if again := position.Rekey(got); !slices.Equal(again, got) {
		t.Fatalf("Consequences: Rekey(%q) is %q", got, again)
	}
}

// randomList returns n elements: keys of a few or of many different ones,
// ascending for a while, or no keys.
func randomList(r *rand.Rand, n int) []string {
	pool := make([]string, 1+r.Intn(2*n+1))
	for i := range pool {
		pool[i] = randomKey(r, []int{1, 2, 5, 60}[r.Intn(4)])
	}
	slices.Sort(pool)
	bad := []string{"", "a", "zza", "B", run("z", 61)}
	l := make([]string, n)
	at := 0
	for i := range l {
		switch at++; {
		case r.Intn(8) == 0:
			l[i] = bad[r.Intn(len(bad))]
			continue
		case r.Intn(4) == 0:
			at = r.Intn(len(pool))
		}
		l[i] = pool[at%len(pool)]
	}
	return l
}

func TestRandomLists(t *testing.T) {
	r := rand.New(rand.NewSource(13))
	for i := range 1500 {
		l := randomList(r, r.Intn(12+i/15))
		if got, want := position.Keep(l), keepByTable(l); !slices.Equal(got, want) {
			t.Fatalf("P11.4: Keep(%q) is %t instead of %t", l, got, want)
		}
		checkRekey(t, l)
	}
}
