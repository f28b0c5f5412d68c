package parse_test

import (
	"math/big"
	"slices"
	"strconv"
	"strings"
	"testing"

	"twain/api"
	"twain/fault"
	"twain/parse"
)

// noise tells the same numbers in each run.
type noise uint64

func (s *noise) word() uint64 {
	*s += 0x9e3779b97f4a7c15
	x := uint64(*s)
	x = (x ^ x>>30) * 0xbf58476d1ce4e5b9
	x = (x ^ x>>27) * 0x94d049bb133111eb
	return x ^ x>>31
}

// below: a number from 0 to n - 1.
func (s *noise) below(n int) int { return int(s.word() % uint64(n)) }

// one: one of the list.
func one[T any](s *noise, l []T) T { return l[s.below(len(l))] }

// words: those that the language keeps for itself; the last five begin a call.
func words() []string { return strings.Fields("input let output relu sum argmax max mux") }

func callWords() []string { return words()[3:] }

func signs() []string { return strings.Fields("+ - * @ < = ( ) [ ] , ; >>") }

// tok: the token of a text of an ordinary kind.
func tok(text string) api.Token {
	switch {
	case slices.Contains(words(), text):
		return api.Token{Kind: api.TokWord, Text: text}
	case slices.Contains(signs(), text):
		return api.Token{Kind: api.TokSign, Text: text}
	case text == "END":
		return api.Token{Kind: api.TokEnd}
	}
	if n, ok := new(big.Int).SetString(text, 10); ok {
		return api.Token{Kind: api.TokNumber, Text: text, Num: n.Uint64()}
	}
	return api.Token{Kind: api.TokName, Text: text}
}

// list: the tokens of texts with blanks between, each at ten times its place in the list, and ten more.
func list(text string) []api.Token {
	var l []api.Token
	for _, part := range strings.Fields(text) {
		l = append(l, tok(part))
	}
	return placed(l)
}

// placed: the tokens, each at ten times its place in the list, and ten more.
func placed(l []api.Token) []api.Token {
	l = slices.Clone(l)
	for i := range l {
		l[i].At = 10*i + 10
	}
	return l
}

// times: a text n times, with blanks between.
func times(text string, n int) string { return strings.Repeat(text+" ", n) }

// tell: all that a tree has; a field that is zero, or a list that is empty, isn't told.
func tell(t api.Tree) string {
	var l []string
	for _, s := range t.Stmts {
		l = append(l, tellStmt(s))
	}
	l = append(l, "|")
	for _, e := range t.Exprs {
		l = append(l, tellExpr(e))
	}
	return strings.Join(l, " ")
}

func tellStmt(s api.Stmt) string {
	text := nth([]string{1: "input", 2: "let", 3: "output"}, int(s.Kind))
	if s.Party != 0 {
		text += ":" + strconv.Itoa(s.Party)
	}
	if s.Name != "" {
		text += "." + s.Name
	}
	if len(s.Shape) > 0 {
		text += tellInts(s.Shape)
	}
	if s.Expr != 0 {
		text += "=" + strconv.Itoa(s.Expr)
	}
	return text + tellAt(s.At)
}

func tellExpr(e api.Expr) string {
	text := nth([]string{1: "number", 2: "name", 3: "neg", 4: "add", 5: "sub", 6: "mul", 7: "mat", 8: "less", 9: "shift", 10: "relu", 11: "sum", 12: "argmax", 13: "max", 14: "mux"}, int(e.Kind))
	if e.Num != 0 {
		text += ":" + strconv.FormatUint(e.Num, 10)
	}
	if e.Name != "" {
		text += "." + e.Name
	}
	if len(e.Args) > 0 {
		text += tellInts(e.Args)
	}
	return text + tellAt(e.At)
}

// nth: the text with this number; the number itself, if there is none.
func nth(texts []string, i int) string {
	if i <= 0 || i >= len(texts) {
		return "kind" + strconv.Itoa(i)
	}
	return texts[i]
}

func tellAt(at int) string {
	if at == 0 {
		return ""
	}
	return "@" + strconv.Itoa(at)
}

func tellInts(l []int) string {
	var texts []string
	for _, n := range l {
		texts = append(texts, strconv.Itoa(n))
	}
	return "[" + strings.Join(texts, ",") + "]"
}

// tellTokens: a list's tokens, shortly.
func tellTokens(l []api.Token) string {
	var texts []string
	for _, t := range l {
		texts = append(texts, strconv.Itoa(int(t.Kind))+t.Text)
	}
	if len(texts) > 60 {
		texts = slices.Concat(texts[:25], []string{".."}, texts[len(texts)-25:])
	}
	return strings.Join(texts, " ")
}

// checkTold: is the tree of the list the one that is told so?
func checkTold(t *testing.T, tokens []api.Token, want string) {
	t.Helper()
	tree, err := parse.Parse(tokens)
	if got := tell(tree); err != nil || got != want {
		t.Errorf("%s:\n%s, %v, want\n%s", tellTokens(tokens), got, err, want)
	}
}

// checkText: likewise, of a text.
func checkText(t *testing.T, text, want string) {
	t.Helper()
	tree, err := parse.Text(text)
	if got := tell(tree); err != nil || got != want {
		t.Errorf("Text(%q):\n%s, %v, want\n%s", text, got, err, want)
	}
}

// checkRefused: is it this error, in the place parse with that int, and nothing beside?
func checkRefused(t *testing.T, tokens []api.Token, code api.Errno, at int) {
	t.Helper()
	tree, err := parse.Parse(tokens)
	checkError(t, tellTokens(tokens), tree, err, "parse", code, at)
}

// checkTextRefused: likewise, of a text.
func checkTextRefused(t *testing.T, text, place string, code api.Errno, at int) {
	t.Helper()
	tree, err := parse.Text(text)
	checkError(t, text, tree, err, place, code, at)
}

func checkError(t *testing.T, what string, tree api.Tree, err error, place string, code api.Errno, at int) {
	t.Helper()
	names, ats := fault.Places(err)
	if fault.Code(err) != code || !slices.Equal(names, []string{place}) || !slices.Equal(ats, []int{at}) {
		t.Errorf("%.300s:\n%v, want %s@%d: errno %d", what, err, place, at, code)
	}
	if len(tree.Stmts)+len(tree.Exprs) != 0 {
		t.Errorf("%.300s: %d statements, %d expressions beside an error", what, len(tree.Stmts), len(tree.Exprs))
	}
}

// check holds Parse against the reader. Is the list taken?
func check(t *testing.T, tokens []api.Token) bool {
	t.Helper()
	want := read(tokens)
	if want.code != api.OK {
		checkRefused(t, tokens, want.code, want.at)
		return false
	}
	tree, err := parse.Parse(tokens)
	if err != nil || !same(tree, want.tree) {
		t.Errorf("%s:\n%s, %v, want\n%s", tellTokens(tokens), tell(tree), err, tell(want.tree))
	}
	return true
}

// same: are two trees the same one?
func same(a, b api.Tree) bool {
	return slices.EqualFunc(a.Stmts, b.Stmts, func(x, y api.Stmt) bool {
		return x.Kind == y.Kind && x.Party == y.Party && x.Name == y.Name && slices.Equal(x.Shape, y.Shape) && x.Expr == y.Expr && x.At == y.At
	}) && slices.EqualFunc(a.Exprs, b.Exprs, func(x, y api.Expr) bool {
		return x.Kind == y.Kind && x.Name == y.Name && x.Num == y.Num && slices.Equal(x.Args, y.Args) && x.At == y.At
	})
}
