package parse_test

import (
	"slices"
	"strconv"
	"strings"
	"testing"

	"twain/api"
	"twain/parse"
)

// A tree is printed with parentheses around each expression: around those that are made of others, or around all.

func number(n int) api.Token {
	return api.Token{Kind: api.TokNumber, Text: strconv.Itoa(n), Num: uint64(n)}
}

func name(text string) api.Token { return api.Token{Kind: api.TokName, Text: text} }

// marks: words and signs.
func marks(text string) []api.Token { return list(text) }

// printTree: the tokens of a tree.
func printTree(t api.Tree, all bool) []api.Token {
	var l []api.Token
	for _, s := range t.Stmts {
		l = append(l, printStmt(t, s, all)...)
		l = append(l, tok(";"))
	}
	return placed(append(l, tok("END")))
}

func printStmt(t api.Tree, s api.Stmt, all bool) []api.Token {
	switch s.Kind {
	case api.SInput:
		var dims []api.Token
		for i, d := range s.Shape {
			dims = append(dims, number(d))
			if i < len(s.Shape)-1 {
				dims = append(dims, tok(","))
			}
		}
		return slices.Concat(marks("input"), []api.Token{number(s.Party), name(s.Name)}, marks("["), dims, marks("]"))
	case api.SLet:
		return slices.Concat(marks("let"), []api.Token{name(s.Name)}, marks("="), printExpr(t, s.Expr, all))
	default:
		return append(marks("output"), name(s.Name))
	}
}

// signOf: the sign or word of a kind.
func signOf(kind api.ExprKind) string {
	for sign, k := range kinds() {
		if k == kind {
			return sign
		}
	}
	return ""
}

// printExpr: the tokens of the expression at this place.
func printExpr(t api.Tree, place int, all bool) []api.Token {
	e := t.Exprs[place]
	var args [][]api.Token
	for _, arg := range e.Args {
		args = append(args, printExpr(t, arg, all))
	}
	var l []api.Token
	switch e.Kind {
	case api.ENumber, api.EName:
		if l = []api.Token{{Kind: api.TokNumber, Text: strconv.FormatUint(e.Num, 10), Num: e.Num}}; e.Kind == api.EName {
			l = []api.Token{name(e.Name)}
		}
		if !all {
			return l
		}
	case api.ENeg:
		l = append(marks("-"), args[0]...)
	case api.EShift:
		l = slices.Concat(args[0], marks(">>"), []api.Token{number(int(e.Num))})
	case api.EAdd, api.ESub, api.EMul, api.EMat, api.ELess:
		l = slices.Concat(args[0], marks(signOf(e.Kind)), args[1])
	default:
		l = append(marks(signOf(e.Kind)), tok("("))
		for i, arg := range args {
			if i > 0 {
				l = append(l, tok(","))
			}
			l = append(l, arg...)
		}
		l = append(l, tok(")"))
	}
	return slices.Concat(marks("("), l, marks(")"))
}

// textOf: a list's tokens as a text, if they are those of one.
func textOf(l []api.Token) string {
	var texts []string
	for _, token := range l {
		texts = append(texts, token.Text)
	}
	return strings.Join(texts, " ")
}

// bare: a tree without its places in the text.
func bare(t api.Tree) api.Tree {
	t.Stmts, t.Exprs = slices.Clone(t.Stmts), slices.Clone(t.Exprs)
	for i := range t.Stmts {
		t.Stmts[i].At = 0
	}
	for i := range t.Exprs {
		t.Exprs[i].At = 0
	}
	return t
}

// checkPrinted: is the tree, printed, parsed to itself? (If all those parentheses aren't too deep.) How often it was is answered.
func checkPrinted(t *testing.T, tree api.Tree) int {
	t.Helper()
	n := 0
	for _, all := range []bool{false, true} {
		l := printTree(tree, all)
		if read(l).code == api.ErrFull {
			continue
		}
		n++
		again, err := parse.Parse(l)
		if err != nil || !same(bare(again), bare(tree)) {
			t.Errorf("%s, printed and parsed:\n%s, %v", tell(bare(tree)), tell(bare(again)), err)
		}
		check(t, l)
		if text := textOf(l); len(text) <= 4096 && len(l) <= 513 {
			again, err = parse.Text(text)
			if err != nil || !same(bare(again), bare(tree)) {
				t.Errorf("%s, printed and parsed as a text:\n%s, %v", tell(bare(tree)), tell(bare(again)), err)
			}
		}
	}
	return n
}

// checkTextPrinted: likewise, of a text's tree.
func checkTextPrinted(t *testing.T, text string) int {
	t.Helper()
	tree, err := parse.Text(text)
	if err != nil {
		t.Errorf("Text(%q): %v", text, err)
	}
	return checkPrinted(t, tree)
}

func TestPrinted(t *testing.T) {
	for _, text := range ordinary() {
		if n := checkTextPrinted(t, text); n != 2 {
			t.Errorf("Text(%q), printed and parsed %d times", text, n)
		}
	}
	for _, text := range []string{"", "let y = 0;", "let y = x;", "input 0 x [];", "input 1048576 x [0, 1048576];", "output y;"} {
		checkTextPrinted(t, text)
	}
}

// grow puts an expression of at most this depth behind those that are there, as the chapter orders them, and answers its place.
func grow(s *noise, t *api.Tree, deep int) int {
	e := api.Expr{Kind: api.ExprKind(1 + s.below(14))}
	if deep == 0 || s.below(8) == 0 {
		e.Kind = api.ExprKind(1 + s.below(2))
	}
	n := 1
	switch e.Kind {
	case api.ENumber:
		e.Num = s.word() >> s.below(64)
		return put(t, e)
	case api.EName:
		e.Name = one(s, []string{"x", "y", "z9", "lets", "abcdefghijklmnop"})
		return put(t, e)
	case api.EShift:
		e.Num = uint64(one(s, []int{0, 1, 63, 64, 1 << 20}))
	case api.EAdd, api.ESub, api.EMul, api.EMat, api.ELess, api.EMax:
		n = 2
	case api.EMux:
		n = 3
	}
	for range n {
		e.Args = append(e.Args, grow(s, t, deep-1))
	}
	return put(t, e)
}

// grown: a tree of so many statements.
func grown(s *noise, stmts, deep int) api.Tree {
	var t api.Tree
	for range stmts {
		x := api.Stmt{Kind: api.StmtKind(1 + s.below(3)), Name: one(s, []string{"x", "y", "z", "big_1"})}
		switch x.Kind {
		case api.SInput:
			x.Party = one(s, []int{0, 1, 2, 1 << 20})
			for range s.below(4) {
				x.Shape = append(x.Shape, one(s, []int{0, 1, 16, 17, 1 << 20}))
			}
		case api.SLet:
			x.Expr = grow(s, &t, deep)
		}
		t.Stmts = append(t.Stmts, x)
	}
	return t
}

func TestGrownTrees(t *testing.T) {
	s := noise(1)
	n := 0
	for i := range 600 {
		n += checkPrinted(t, grown(&s, s.below(6), i%6))
	}
	if n < 1000 {
		t.Errorf("of 600 trees %d were printed and parsed", n)
	}
}

// Names and numbers that no text has are printed as tokens alone.
func TestPrintedOddNames(t *testing.T) {
	for _, odd := range oddTexts() {
		l := list("input 0 x [ 2 ] ; let y = x + relu ( x ) ; output y ;")
		for i := range l {
			if l[i].Kind == api.TokName {
				l[i].Text = odd
			}
		}
		tree, err := parse.Parse(l)
		again, e := parse.Parse(printTree(tree, true))
		if err != nil || e != nil || !same(bare(again), bare(tree)) {
			t.Errorf("%q: %s, %v, printed and parsed: %s, %v", odd, tell(tree), err, tell(again), e)
		}
	}
}

// What fits without parentheses may be too deep with all of them: that is refused as any list is.
func TestPrintedTooDeep(t *testing.T) {
	for n := 1; n <= 40; n++ {
		l := list("let y = " + times("a +", n) + "a ;")
		tree, err := parse.Parse(l)
		if err != nil {
			t.Fatalf("%d sums: %v", n, err)
		}
		again, err := parse.Parse(printTree(tree, false))
		if n <= mostDeep {
			if err != nil || !same(bare(again), bare(tree)) {
				t.Errorf("%d sums, printed and parsed: %s, %v", n, tell(again), err)
			}
			continue
		}
		checkRefused(t, printTree(tree, false), api.ErrFull, 10*(3+mostDeep)+10)
	}
}
