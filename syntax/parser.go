package syntax

import "semvcs/api"

// parser reads tokens from the left. After an error nothing but the end is left
// to it, so that it comes to its own end without a test behind every step; what
// it returns then is dropped.
type parser struct {
	rest []api.Token // what is not yet read, and the end, which stays
	read int         // how many bytes are read
	at   int         // the offset of the error
	e    api.Errno
}

func (p *parser) next() api.Token {
	return p.rest[0]
}

func (p *parser) take() api.Token {
	t := p.next()
	if len(p.rest) > 1 {
		p.rest = p.rest[1:]
		p.read += len(t.Lead) + len(t.Text)
	}
	return t
}

// fail notes an error at the next token, unless there has been one before.
func (p *parser) fail(e api.Errno) {
	if p.e == api.OK {
		p.at = p.read + len(p.next().Lead)
		p.e = e
	}
	p.rest = p.rest[len(p.rest)-1:]
}

// node reads a node of this kind.
func (p *parser) node(kind int) api.Tree {
	t := api.Tree{Kind: kind}
	var kids []api.Tree
	var commas []string
	for _, x := range parts(kind) {
		switch {
		case x.series:
			kids, commas = p.series(x)
			t.Kids = append(t.Kids, kids...)
		case x.kids != 0:
			t.Kids = append(t.Kids, p.tree(x.kids))
		default:
			p.token(&t, x)
		}
	}
	t.Leads = append(t.Leads, commas...)
	return t
}

// token reads a token that belongs to t itself.
func (p *parser) token(t *api.Tree, x part) {
	if !x.fits(p.next()) {
		p.fail(api.ErrSyntax)
		return
	}
	token := p.take()
	t.Leads = append(t.Leads, token.Lead)
	if x.name != nil {
		t.Text = token.Text
	}
}

// series reads kids of one sort, as many as there are, and the leads of the
// commas between them.
func (p *parser) series(x part) (kids []api.Tree, commas []string) {
	more := x.least > 0 || p.begins(x.kids) != 0
	for more {
		if len(kids) == x.most && p.begins(x.kids) != 0 {
			p.fail(api.ErrLong)
		}
		kids = append(kids, p.tree(x.kids))
		if !x.commas {
			more = p.begins(x.kids) != 0
		} else if more = p.next().Text == ","; more {
			commas = append(commas, p.take().Lead)
		}
	}
	return kids, commas
}

// tree reads a node of this sort, and the operators behind it if it is an
// expression. (Behind an If or a Let there is none: their last kids take all.)
func (p *parser) tree(s sort) api.Tree {
	kind := p.begins(s)
	if kind == 0 {
		p.fail(api.ErrSyntax)
		return api.Tree{}
	}
	t := p.node(kind)
	for s == expression && operator(p.next()) {
		token := p.take()
		second := p.tree(unit)
		t = api.Tree{Kind: api.Bin, Text: token.Text, Leads: []string{token.Lead}, Kids: []api.Tree{t, second}}
	}
	return t
}

// begins returns the kind of the node of this sort that begins with the next
// token, or 0 if none does; of a Bin it is the kind of the first operand.
func (p *parser) begins(s sort) int {
	kind := 0
	switch s {
	case definition:
		kind = definitionKind(p.next())
	case parameter:
		if lower(p.next()) {
			kind = api.Param
		}
	case typing:
		kind = typeKind(p.next())
	case argument:
		if p.begins(expression) != 0 {
			kind = api.Arg
		}
	default:
		kind = p.expressionKind()
	}
	if !s.has(kind) {
		return 0
	}
	return kind
}

func definitionKind(t api.Token) int {
	switch t.Text {
	case "def":
		return api.Func
	case "type":
		return api.Alias
	}
	return 0
}

func typeKind(t api.Token) int {
	switch t.Text {
	case "Int":
		return api.TInt
	case "Text":
		return api.TText
	case "Bool":
		return api.TBool
	case "[":
		return api.TList
	}
	if reference(t) {
		return api.TName
	}
	return 0
}

func (p *parser) expressionKind() int {
	t := p.next()
	switch t.Kind {
	case api.Number:
		return api.Num
	case api.String:
		return api.Str
	case api.LowerOf:
		return api.Call
	case api.Lower:
		if p.rest[1].Text == "(" {
			return api.Call
		}
		return api.Var
	}
	switch t.Text {
	case "true":
		return api.True
	case "false":
		return api.False
	case "?":
		return api.Hole
	case "[":
		return api.List
	case "if":
		return api.If
	case "let":
		return api.Let
	case "(":
		return api.Paren
	}
	return 0
}
