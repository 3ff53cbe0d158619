package syntax_test

import (
	"math/rand"
	"slices"
	"strings"
	"testing"

	"semvcs/api"
	"semvcs/lex"
	"semvcs/syntax"
)

// grammar is the grammar of the chapter, a rule a line, with new names for
// what is optional or repeated. A rule's empty right side is empty.
const grammar = `
File module Upper Defs
Defs
Defs Defs Def
Def def lower ( Params ) : T = E
Def type Upper = T
Params
Params Param
Params Params1 , Param
Params1 Param
Params1 Params1 , Param
Param lower : T
T Int
T Text
T Bool
T Upper
T UpperOf
T [ T ]
E let lower = E in E
E if E then E else E
E Sum
Sum U
Sum Sum op U
op +
op -
op *
op <
op ==
U number
U string
U true
U false
U ?
U lower
U lower ( Args )
U lowerOf ( Args )
U [ Items ]
U ( E )
Args
Args Items
Items E
Items Items , E
`

// rules are the right sides of the grammar by their left sides.
func rules() map[string][][]string {
	m := map[string][][]string{}
	for line := range strings.Lines(strings.TrimSpace(grammar)) {
		l := strings.Fields(line)
		m[l[0]] = append(m[l[0]], l[1:])
	}
	return m
}

// item is a rule of the grammar of which the first so many symbols have been
// seen, from a place on.
type item struct {
	left       string
	rule, seen int
	from       int
}

// model recognizes texts by Earley's method, which follows all ways through
// the grammar at once, and therefore finds the first symbol that fits none.
type model struct {
	rules map[string][][]string
	sets  [][]item
}

func (m *model) add(at int, x item) {
	for len(m.sets) <= at {
		m.sets = append(m.sets, nil)
	}
	if !slices.Contains(m.sets[at], x) {
		m.sets[at] = append(m.sets[at], x)
	}
}

func (m *model) nextSymbol(x item) string {
	right := m.rules[x.left][x.rule]
	if x.seen == len(right) {
		return ""
	}
	return right[x.seen]
}

// close completes and predicts until nothing is new at this place.
func (m *model) close(at int) {
	for size := -1; size != len(m.sets[at]); {
		size = len(m.sets[at])
		for i := 0; i < len(m.sets[at]); i++ {
			x := m.sets[at][i]
			symbol := m.nextSymbol(x)
			for r := range m.rules[symbol] {
				m.add(at, item{symbol, r, 0, at})
			}
			if symbol != "" {
				continue
			}
			for _, y := range slices.Clone(m.sets[x.from]) {
				if m.nextSymbol(y) == x.left {
					m.add(at, item{y.left, y.rule, y.seen + 1, y.from})
				}
			}
		}
	}
}

// wrong returns the index of the first symbol that fits no rule, len(symbols)
// if they end too early, and -1 if they are a source.
func wrong(rules map[string][][]string, symbols []string) int {
	m := model{rules: rules}
	m.add(0, item{"File", 0, 0, 0})
	m.close(0)
	for i, symbol := range symbols {
		for _, x := range m.sets[i] {
			if m.nextSymbol(x) == symbol {
				m.add(i+1, item{x.left, x.rule, x.seen + 1, x.from})
			}
		}
		if len(m.sets) <= i+1 {
			return i
		}
		m.close(i + 1)
	}
	if slices.Contains(m.sets[len(symbols)], item{"File", 0, 3, 0}) {
		return -1
	}
	return len(symbols)
}

// symbol is what the grammar calls a token.
func symbol(text string) string {
	switch lex.Class(text) {
	case api.Lower:
		return "lower"
	case api.Upper:
		return "Upper"
	case api.LowerOf:
		return "lowerOf"
	case api.UpperOf:
		return "UpperOf"
	case api.Number:
		return "number"
	case api.String:
		return "string"
	}
	return text
}

// checkTokens compares what Parse says of tokens that respect all limits with
// what the model says.
func checkTokens(t *testing.T, rules map[string][][]string, texts []string) bool {
	t.Helper()
	symbols := make([]string, len(texts))
	for i, text := range texts {
		symbols[i] = symbol(text)
	}
	src := strings.Join(texts, " ") + " "
	tree, at, e := syntax.Parse(src)
	bad := wrong(rules, symbols)
	if bad < 0 {
		if e != api.OK || at != 0 || !syntax.Valid(tree) || syntax.Print(tree) != src {
			t.Fatalf("P2.2: Parse(%q): %v, error %d at %d", src, tree, e, at)
		}
		return true
	}
	offset := len(strings.Join(texts[:bad], " ")) + min(bad, 1)
	if bad == len(texts) {
		offset = len(src)
	}
	if e != api.ErrSyntax || at != offset || !same(tree, api.Tree{}) {
		t.Fatalf("P2.2: Parse(%q): error %d at %d, not %d at %d", src, e, at, api.ErrSyntax, offset)
	}
	return false
}

// vocabulary has all reserved words and signs, and one token of each other kind.
func vocabulary() []string {
	return strings.Fields(`module def type let in if then else true false Int Text Bool ( ) [ ] : , = + - * < == ? x M M.f M.T 1 "a"`)
}

func TestAllShortTexts(t *testing.T) {
	r := rules()
	for _, before := range []string{
		"", "module M", "module M def", "module M def f (", "module M def f ( x : Int", "module M def f ( x : Int ,", "module M def f ( )", "module M def f ( ) :", "module M type", "module M type A =", "module M type A = [",
		"module M def f ( ) : Int =", "module M def f ( ) : Int = f", "module M def f ( ) : Int = M.f", "module M def f ( ) : Int = f (", "module M def f ( ) : Int = f ( x", "module M def f ( ) : Int = f ( x ,", "module M def f ( ) : Int = [", "module M def f ( ) : Int = [ x", "module M def f ( ) : Int = [ x ,", "module M def f ( ) : Int = (", "module M def f ( ) : Int = ( x",
		"module M def f ( ) : Int = if", "module M def f ( ) : Int = if x then", "module M def f ( ) : Int = if x then y else", "module M def f ( ) : Int = let", "module M def f ( ) : Int = let x = y", "module M def f ( ) : Int = let x = y in", "module M def f ( ) : Int = x", "module M def f ( ) : Int = x +", "module M def f ( ) : Int = f ( x )", "module M type A = Int",
	} {
		prefix := strings.Fields(before)
		checkTokens(t, r, prefix)
		for _, a := range vocabulary() {
			for _, b := range vocabulary() {
				checkTokens(t, r, append(slices.Clone(prefix), a, b))
			}
		}
	}
}

// grow writes random tokens that follow a rule of the grammar; where fuel has
// run out it takes the shortest way.
func grow(r *rand.Rand, rules map[string][][]string, left string, fuel *int) []string {
	l := rules[left]
	if len(l) == 0 {
		return []string{word(r, left)}
	}
	*fuel--
	right := l[0]
	if *fuel > 0 {
		right = l[r.Intn(len(l))]
	} else if left == "E" {
		right = l[2]
	}
	var texts []string
	for _, symbol := range right {
		texts = append(texts, grow(r, rules, symbol, fuel)...)
	}
	return texts
}

// word is a random token of this symbol of the grammar.
func word(r *rand.Rand, symbol string) string {
	words := map[string][]string{
		"lower": {"x", "f", "g1"}, "Upper": {"M", "A_b"}, "lowerOf": {"M.f", "N.x"}, "UpperOf": {"M.T", "N.A"}, "number": {"0", "1", "205"}, "string": {`""`, `"a b"`, `"#"`},
	}[symbol]
	if len(words) == 0 {
		return symbol
	}
	return words[r.Intn(len(words))]
}

// damage inserts, removes, replaces or exchanges a token.
func damage(r *rand.Rand, texts []string) []string {
	v := vocabulary()
	i, j := r.Intn(len(texts)), r.Intn(len(texts))
	texts = slices.Clone(texts)
	switch r.Intn(5) {
	case 0:
		return slices.Insert(texts, i, v[r.Intn(len(v))])
	case 1:
		return slices.Delete(texts, i, i+1)
	case 2:
		texts[i] = v[r.Intn(len(v))]
	case 3:
		texts[i], texts[j] = texts[j], texts[i]
	case 4:
		return texts[:i]
	}
	return texts
}

// modest reports whether no limit can matter to a text: a level is made by one
// of these tokens, or by two where it is a call.
func modest(texts []string) bool {
	commas, levels := 0, 0
	for _, text := range texts {
		switch text {
		case ",":
			commas++
		case "let", "if", "(", "[", "+", "-", "*", "<", "==":
			levels += 2
		}
	}
	return commas < api.MaxParams && levels < api.MaxDepth-4
}

func TestRandomTexts(t *testing.T) {
	rules := rules()
	r := rand.New(rand.NewSource(2))
	whole, damaged := 0, 0
	for range 1500 {
		fuel := r.Intn(60)
		texts := grow(r, rules, "File", &fuel)
		if !modest(texts) {
			continue
		}
		if !checkTokens(t, rules, texts) {
			t.Fatalf("%q is not a source", texts)
		}
		whole++
		for n := 0; n < 8 && len(texts) > 0; n++ {
			texts = damage(r, texts)
			if modest(texts) && checkTokens(t, rules, texts) {
				damaged++
			}
		}
	}
	if whole < 500 || damaged < 50 {
		t.Errorf("only %d sources, and %d that are damaged", whole, damaged)
	}
}
