package parse_test

import (
	"slices"
	"strings"

	"twain/api"
)

// The chapter's words once more, apart from the program: its grammar as rules that are all tried at once, the trees by cutting lists where they are joined last.

const (
	mostStmts = 64
	mostDeep  = 32
	mostCount = 1 << 20
)

// rules: the chapter's grammar. In capitals: a rule; relu! and the like: a call's word; count: a PARTY, dimension or shift; end: a TokEnd.
const rules = `
	ALL = TEXT end
	TEXT =
	TEXT = TEXT STMT ;
	STMT = input count name SHAPE
	STMT = let name = EXPR
	STMT = output name
	SHAPE = [ ]
	SHAPE = [ DIMS ]
	DIMS = count
	DIMS = DIMS , count
	EXPR = SUM
	EXPR = SUM < SUM
	SUM = PROD
	SUM = SUM + PROD
	SUM = SUM - PROD
	PROD = SIGN
	PROD = PROD * SIGN
	PROD = PROD @ SIGN
	SIGN = - SIGN
	SIGN = POST
	POST = ATOM
	POST = POST >> count
	ATOM = number
	ATOM = name
	ATOM = ( EXPR )
	ATOM = CALL
	CALL = relu! ( EXPR )
	CALL = sum! ( EXPR )
	CALL = argmax! ( EXPR )
	CALL = max! ( EXPR , EXPR )
	CALL = mux! ( EXPR , EXPR , EXPR )`

// rule: a line of the grammar.
type rule struct {
	name  string
	parts []string
}

// grammar: the rules, line by line; the first one is the whole.
func grammar() []rule {
	var l []rule
	for _, line := range strings.Split(strings.TrimSpace(rules), "\n") {
		words := strings.Fields(line)
		l = append(l, rule{words[0], words[2:]})
	}
	return l
}

// mark: a word's or a sign's text.
func mark(token api.Token) string {
	if token.Kind == api.TokWord || token.Kind == api.TokSign {
		return token.Text
	}
	return ""
}

// fits: may the token stand where a rule has this part?
func fits(token api.Token, part string) bool {
	if part == "" || part[0] >= 'A' && part[0] <= 'Z' {
		return false
	}
	switch part {
	case "end":
		return token.Kind == api.TokEnd
	case "name":
		return token.Kind == api.TokName
	case "number":
		return token.Kind == api.TokNumber
	case "count":
		return token.Kind == api.TokNumber && token.Num <= mostCount
	}
	if word, ok := strings.CutSuffix(part, "!"); ok {
		return token.Kind == api.TokWord && token.Text == word
	}
	return mark(token) == part
}

// item: a rule, of which so many parts are through, begun behind so many tokens.
type item struct{ rule, dot, from int }

// chart: for each number of tokens the items that may be under way behind them.
type chart struct {
	rules []rule
	sets  [][]item
}

func newChart() *chart {
	c := &chart{rules: grammar()}
	c.sets = [][]item{c.grown([]item{{}})}
	return c
}

// wanted: the part that an item waits for; empty if it is through.
func (c *chart) wanted(it item) string {
	if parts := c.rules[it.rule].parts; it.dot < len(parts) {
		return parts[it.dot]
	}
	return ""
}

// grown: the items behind as many tokens as there are sets, and those that follow from them.
func (c *chart) grown(set []item) []item {
	put := func(it item) {
		if !slices.Contains(set, it) {
			set = append(set, it)
		}
	}
	for i := 0; i < len(set); i++ {
		it := set[i]
		if it.dot < len(c.rules[it.rule].parts) {
			for r, rule := range c.rules {
				if rule.name == c.wanted(it) {
					put(item{r, 0, len(c.sets)})
				}
			}
			continue
		}
		outer := set
		if it.from < len(c.sets) {
			outer = c.sets[it.from]
		}
		for _, o := range slices.Clone(outer) {
			if c.wanted(o) == c.rules[it.rule].name {
				put(item{o.rule, o.dot + 1, o.from})
			}
		}
	}
	return set
}

// takes: may the token stand behind those that were taken? If so it is taken, too.
func (c *chart) takes(token api.Token) bool {
	var set []item
	for _, it := range c.sets[len(c.sets)-1] {
		if fits(token, c.wanted(it)) {
			set = append(set, item{it.rule, it.dot + 1, it.from})
		}
	}
	if len(set) == 0 {
		return false
	}
	c.sets = append(c.sets, c.grown(set))
	return true
}

// isCall: does a call begin with the token?
func isCall(token api.Token) bool {
	return token.Kind == api.TokWord && slices.Contains(strings.Fields("relu sum argmax max mux"), token.Text)
}

// ends: does what is joined, or shifted, end with the token?
func ends(token api.Token) bool {
	return token.Kind == api.TokNumber || token.Kind == api.TokName || mark(token) == ")"
}

// depth: how deep a token stands, told by what was opened ahead of it: for each parenthesis or call that is open, and for the outmost, the signs in it that are still open.
type depth struct {
	last api.Token
	open []int
}

// takes: how deep it is with the token, which may stand there by the grammar.
func (d *depth) takes(token api.Token) int {
	top := len(d.open) - 1
	switch m := mark(token); {
	case m == "=" || m == ";":
		d.open = []int{0}
	case isCall(token), m == "(" && !isCall(d.last):
		d.open = append(d.open, 0)
	case m == ")":
		d.open = d.open[:top]
	case m == "-" && !ends(d.last):
		d.open[top]++
	case slices.Contains(strings.Fields("+ - * @ < ,"), m) && len(d.open) > 0:
		d.open[top] = 0
	}
	d.last = token
	n := len(d.open) - 1
	for _, signs := range d.open {
		n += signs
	}
	return n
}

// answer: what Parse should answer of a list.
type answer struct {
	tree api.Tree
	code api.Errno
	at   int
}

// read: what the chapter's words say of a list.
func read(tokens []api.Token) answer {
	n := slices.IndexFunc(tokens, func(t api.Token) bool { return t.Kind == api.TokEnd })
	if n < 0 {
		n = len(tokens)
		tokens = append(slices.Clone(tokens), api.Token{})
	}
	c, d, stmts := newChart(), &depth{}, 0
	for i, token := range tokens[:n+1] {
		if begins := i == 0 || mark(tokens[i-1]) == ";"; begins && stmts == mostStmts && i < n {
			return answer{code: api.ErrFull, at: token.At}
		}
		if !c.takes(token) {
			return answer{code: api.ErrParse, at: token.At}
		}
		if d.takes(token) > mostDeep {
			return answer{code: api.ErrFull, at: token.At}
		}
		if mark(token) == ";" {
			stmts++
		}
	}
	return answer{tree: build(tokens[:n])}
}

// build: the tree of a list that the grammar takes.
func build(tokens []api.Token) api.Tree {
	var t api.Tree
	for from, i := 0, 0; i < len(tokens); i++ {
		if mark(tokens[i]) == ";" {
			t.Stmts = append(t.Stmts, buildStmt(&t, tokens[from:i]))
			from = i + 1
		}
	}
	return t
}

// buildStmt: the statement of its tokens but the ; behind it.
func buildStmt(t *api.Tree, l []api.Token) api.Stmt {
	switch s := (api.Stmt{At: l[0].At}); mark(l[0]) {
	case "input":
		s.Kind, s.Party, s.Name = api.SInput, int(l[1].Num), l[2].Text
		for i := 4; i+1 < len(l); i += 2 {
			s.Shape = append(s.Shape, int(l[i].Num))
		}
		return s
	case "let":
		s.Kind, s.Name, s.Expr = api.SLet, l[1].Text, buildExpr(t, l[3:])
		return s
	default:
		s.Kind, s.Name = api.SOutput, l[1].Text
		return s
	}
}

// buildExpr: the place of the expression of these tokens. It is cut where it is joined last.
func buildExpr(t *api.Tree, l []api.Token) int {
	for _, signs := range []string{"<", "+ -", "* @"} {
		if i := lastJoin(l, strings.Fields(signs)); i >= 0 {
			left := buildExpr(t, l[:i])
			return put(t, api.Expr{Kind: kinds()[mark(l[i])], Args: []int{left, buildExpr(t, l[i+1:])}, At: l[i].At})
		}
	}
	n := len(l)
	switch {
	case mark(l[0]) == "-":
		return put(t, api.Expr{Kind: api.ENeg, Args: []int{buildExpr(t, l[1:])}, At: l[0].At})
	case n > 2 && mark(l[n-2]) == ">>":
		return put(t, api.Expr{Kind: api.EShift, Args: []int{buildExpr(t, l[:n-2])}, Num: l[n-1].Num, At: l[n-2].At})
	case mark(l[0]) == "(":
		return buildExpr(t, l[1:n-1])
	case l[0].Kind == api.TokNumber:
		return put(t, api.Expr{Kind: api.ENumber, Num: l[0].Num, At: l[0].At})
	case l[0].Kind == api.TokName:
		return put(t, api.Expr{Kind: api.EName, Name: l[0].Text, At: l[0].At})
	}
	var args []int
	for rest := l[2:]; len(rest) > 0; {
		i := argEnd(rest)
		args = append(args, buildExpr(t, rest[:i]))
		rest = rest[i+1:]
	}
	return put(t, api.Expr{Kind: kinds()[l[0].Text], Args: args, At: l[0].At})
}

// kinds: those of what a mark makes of others.
func kinds() map[string]api.ExprKind {
	return map[string]api.ExprKind{"+": api.EAdd, "-": api.ESub, "*": api.EMul, "@": api.EMat, "<": api.ELess, "relu": api.ERelu, "sum": api.ESum, "argmax": api.EArgmax, "max": api.EMax, "mux": api.EMux}
}

func put(t *api.Tree, e api.Expr) int {
	t.Exprs = append(t.Exprs, e)
	return len(t.Exprs) - 1
}

// lastJoin: where the last of these signs stands that joins two, outside of all parentheses; or -1.
func lastJoin(l []api.Token, signs []string) int {
	level := 0
	for i := len(l) - 1; i > 0; i-- {
		switch m := mark(l[i]); {
		case m == ")":
			level++
		case m == "(":
			level--
		case level == 0 && slices.Contains(signs, m) && ends(l[i-1]):
			return i
		}
	}
	return -1
}

// argEnd: where the , or ) behind a call's argument stands.
func argEnd(l []api.Token) int {
	level := 0
	for i, token := range l {
		switch m := mark(token); {
		case level == 0 && (m == "," || m == ")"):
			return i
		case m == "(":
			level++
		case m == ")":
			level--
		}
	}
	return -1
}
