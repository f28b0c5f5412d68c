package parse

import (
	"slices"

	"twain/api"
)

// put lays an expression behind those that ended ahead of it. Its place is answered.
func (p *parser) put(e api.Expr) int {
	p.tree.Exprs = append(p.tree.Exprs, e)
	return len(p.tree.Exprs) - 1
}

// enter goes past the token that begins what is one deeper, and answers it.
func (p *parser) enter() (api.Token, error) {
	if p.deep == api.MaxNest {
		return api.Token{}, p.refuse(api.ErrFull)
	}
	p.deep++
	return p.pass(), nil
}

// leave: what was entered last has ended.
func (p *parser) leave() { p.deep-- }

// expr: an EXPR; its place, as of all rules below. A < behind the second SUM isn't this rule's.
func (p *parser) expr() (int, error) {
	left, err := p.sum()
	if err != nil || joinOf(p.mark()) != api.ELess {
		return left, err
	}
	return p.join(left, p.sum)
}

// sum: a SUM.
func (p *parser) sum() (int, error) { return p.row(p.prod, api.EAdd, api.ESub) }

// prod: a PROD.
func (p *parser) prod() (int, error) { return p.row(p.sign, api.EMul, api.EMat) }

// row: parts of a rule with signs of these kinds between them, joined from the left.
func (p *parser) row(part func() (int, error), kinds ...api.ExprKind) (int, error) {
	left, err := part()
	for err == nil && slices.Contains(kinds, joinOf(p.mark())) {
		left, err = p.join(left, part)
	}
	return left, err
}

// join: what stands on the left, joined by the sign that is next to the part behind it.
func (p *parser) join(left int, part func() (int, error)) (int, error) {
	kind := joinOf(p.mark())
	sign := p.pass()
	right, err := part()
	if err != nil {
		return 0, err
	}
	return p.put(api.Expr{Kind: kind, Args: []int{left, right}, At: sign.At}), nil
}

// joinOf: the kind of what a sign joins of two; 0 of any other text.
func joinOf(text string) api.ExprKind {
	switch text {
	case "+":
		return api.EAdd
	case "-":
		return api.ESub
	case "*":
		return api.EMul
	case "@":
		return api.EMat
	case "<":
		return api.ELess
	}
	return 0
}

// sign: a SIGN.
func (p *parser) sign() (int, error) {
	if p.mark() != "-" {
		return p.post()
	}
	minus, err := p.enter()
	if err != nil {
		return 0, err
	}
	arg, err := p.sign()
	if err != nil {
		return 0, err
	}
	p.leave()
	return p.put(api.Expr{Kind: api.ENeg, Args: []int{arg}, At: minus.At}), nil
}

// post: a POST.
func (p *parser) post() (int, error) {
	arg, err := p.atom()
	for err == nil && p.mark() == ">>" {
		arg, err = p.shift(arg)
	}
	return arg, err
}

// shift: what stands on the left, shifted by the >> that is next and the number behind it.
func (p *parser) shift(arg int) (int, error) {
	sign := p.pass()
	by, err := p.count()
	if err != nil {
		return 0, err
	}
	return p.put(api.Expr{Kind: api.EShift, Num: uint64(by), Args: []int{arg}, At: sign.At}), nil
}

// atom: an ATOM.
func (p *parser) atom() (int, error) {
	token := p.next()
	switch {
	case token.Kind == api.TokNumber:
		p.pass()
		return p.put(api.Expr{Kind: api.ENumber, Num: token.Num, At: token.At}), nil
	case token.Kind == api.TokName:
		name, err := p.name()
		return p.put(api.Expr{Kind: api.EName, Name: name, At: token.At}), err
	case p.mark() == "(":
		return p.inner()
	}
	return p.call()
}

// inner: an EXPR in parentheses. It is the EXPR itself, not another expression around it.
func (p *parser) inner() (int, error) {
	if _, err := p.enter(); err != nil {
		return 0, err
	}
	place, err := p.expr()
	if err != nil {
		return 0, err
	}
	p.leave()
	return place, p.want(")")
}

// call: a CALL.
func (p *parser) call() (int, error) {
	kind, n := callOf(p.next())
	if n == 0 {
		return 0, p.refuse(api.ErrParse)
	}
	word, err := p.enter()
	if err != nil {
		return 0, err
	}
	args, err := p.args(n)
	if err != nil {
		return 0, err
	}
	p.leave()
	return p.put(api.Expr{Kind: kind, Args: args, At: word.At}), nil
}

// args: the places of what stands in a call's parentheses, n EXPRs.
func (p *parser) args(n int) ([]int, error) {
	args := make([]int, n)
	ahead := "("
	for i := range args {
		if err := p.want(ahead); err != nil {
			return nil, err
		}
		place, err := p.expr()
		if err != nil {
			return nil, err
		}
		args[i] = place
		ahead = ","
	}
	return args, p.want(")")
}

// callOf: the kind of the call that a token begins, and of how many it is made; zeros of one that begins none. (A sign with a call's text isn't its word.)
func callOf(token api.Token) (api.ExprKind, int) {
	if token.Kind != api.TokWord {
		return 0, 0
	}
	switch token.Text {
	case "relu":
		return api.ERelu, 1
	case "sum":
		return api.ESum, 1
	case "argmax":
		return api.EArgmax, 1
	case "max":
		return api.EMax, 2
	case "mux":
		return api.EMux, 3
	}
	return 0, 0
}
