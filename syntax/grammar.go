package syntax

import (
	"math"

	"semvcs/api"
	"semvcs/lex"
)

// sort is what the grammar asks of a kid.
type sort int

const (
	definition sort = 1 + iota
	parameter
	typing
	argument
	expression
	operand // the first kid of a Bin
	unit
)

// has reports whether the nodes of a kind are of this sort.
func (s sort) has(kind int) bool {
	switch s {
	case definition:
		return kind == api.Func || kind == api.Alias
	case parameter:
		return kind == api.Param
	case typing:
		return api.TInt <= kind && kind <= api.TName
	case argument:
		return kind == api.Arg
	}
	switch kind {
	case api.Arg:
		return false
	case api.If, api.Let:
		return s == expression
	case api.Bin:
		return s != unit
	}
	return api.Num <= kind && kind <= api.Paren
}

// part is a part of a node: a token that is always the same one (word), a token
// that is the text of the node (name), or kids of one sort. The end of a source
// is a token without a text, so that its lead is like any other one.
type part struct {
	word        string
	name        func(api.Token) bool
	kids        sort // 0 for a token
	least, most int  // how many kids (least: of a series)
	series      bool // whether the number of kids is free
	commas      bool // whether commas stand between the kids
}

func word(text string) part {
	return part{word: text}
}

func name(fits func(api.Token) bool) part {
	return part{name: fits}
}

func one(s sort) part {
	return part{kids: s, most: 1}
}

func many(s sort, least, most int) part {
	return part{kids: s, least: least, most: most, series: true, commas: s != definition}
}

// parts returns what the nodes of a kind consist of, as the grammar has it.
// The order of leads is this order too, but commas come last.
func parts(kind int) []part {
	switch kind {
	case api.Module:
		return []part{word("module"), name(upper), many(definition, 0, api.MaxDefs), word("")}
	case api.Func:
		return []part{word("def"), name(lower), word("("), many(parameter, 0, api.MaxParams), word(")"), word(":"), one(typing), word("="), one(expression)}
	case api.Alias:
		return []part{word("type"), name(upper), word("="), one(typing)}
	case api.Param:
		return []part{name(lower), word(":"), one(typing)}
	case api.TInt:
		return []part{word("Int")}
	case api.TText:
		return []part{word("Text")}
	case api.TBool:
		return []part{word("Bool")}
	case api.TList:
		return []part{word("["), one(typing), word("]")}
	case api.TName:
		return []part{name(reference)}
	}
	return expressionParts(kind)
}

func expressionParts(kind int) []part {
	switch kind {
	case api.Num:
		return []part{name(number)}
	case api.Str:
		return []part{name(quoted)}
	case api.Var:
		return []part{name(lower)}
	case api.True:
		return []part{word("true")}
	case api.False:
		return []part{word("false")}
	case api.Hole:
		return []part{word("?")}
	case api.Call:
		return []part{name(callee), word("("), many(argument, 0, api.MaxParams), word(")")}
	case api.Arg:
		return []part{one(expression)}
	case api.List:
		return []part{word("["), many(expression, 1, api.MaxItems), word("]")}
	case api.If:
		return []part{word("if"), one(expression), word("then"), one(expression), word("else"), one(expression)}
	case api.Let:
		return []part{word("let"), name(lower), word("="), one(expression), word("in"), one(expression)}
	case api.Bin:
		return []part{one(operand), name(operator), one(unit)}
	case api.Paren:
		return []part{word("("), one(expression), word(")")}
	}
	return nil
}

// free returns how many of a node's kids belong to the series among its parts,
// and false if such a node cannot have this many kids.
func free(l []part, kids int) (n int, ok bool) {
	if len(l) == 0 || kids < 0 {
		return 0, false
	}
	least, most := 0, 0
	for _, x := range l {
		switch {
		case x.series:
			least, most = x.least, math.MaxInt
		case x.kids != 0:
			kids--
		}
	}
	return kids, least <= kids && kids <= most
}

// count returns how many kids belong to a part, where the series has n.
func (x part) count(n int) int {
	switch {
	case x.series:
		return n
	case x.kids != 0:
		return 1
	}
	return 0
}

// tokens returns how many of the parts are tokens.
func tokens(l []part) int {
	n := 0
	for _, x := range l {
		if x.kids == 0 {
			n++
		}
	}
	return n
}

// fits reports whether a token can be this part.
func (x part) fits(t api.Token) bool {
	if x.name != nil {
		return x.name(t)
	}
	return x.word == t.Text
}

// named reports whether a node has the text that a node of these parts has.
func named(t api.Tree, l []part) bool {
	for _, x := range l {
		if x.name != nil {
			return x.name(api.Token{Kind: lex.Class(t.Text), Text: t.Text})
		}
	}
	return t.Text == ""
}

func upper(t api.Token) bool {
	return t.Kind == api.Upper
}

func lower(t api.Token) bool {
	return t.Kind == api.Lower
}

func reference(t api.Token) bool {
	return t.Kind == api.Upper || t.Kind == api.UpperOf
}

func callee(t api.Token) bool {
	return t.Kind == api.Lower || t.Kind == api.LowerOf
}

func number(t api.Token) bool {
	return t.Kind == api.Number
}

func quoted(t api.Token) bool {
	return t.Kind == api.String
}

func operator(t api.Token) bool {
	switch t.Text {
	case "+", "-", "*", "<", "==":
		return true
	}
	return false
}
