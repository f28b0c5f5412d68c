package parse_test

import (
	"slices"
	"strings"
	"testing"
	"unsafe"

	"twain/api"
	"twain/fault"
	"twain/parse"
)

// What is handed in, and what is answered.

// lent: a text that stands on bytes, which may be spoilt behind it.
func lent(b []byte) string { return unsafe.String(unsafe.SliceData(b), len(b)) }

// lists: ordinary ones, and those that are refused.
func lists() [][]api.Token {
	l := [][]api.Token{nil, list("END END"), list("let = 7"), list("output x ; let y = ( a"), list("input 0 x [ 2 , 3 ] ; x"), list("let y = " + times("-", 40)), list(times("output x ;", 70))}
	for _, text := range ordinary() {
		l = append(l, tokensOf(text))
	}
	return l
}

func TestTokensStay(t *testing.T) {
	for _, l := range lists() {
		want := read(l)
		// Spare room behind the list is the caller's, too: a list that goes on there isn't gone through.
		room := append(slices.Clone(l), list("let z = 1 ; 7 END")...)
		was := slices.Clone(room)
		tree, err := parse.Parse(room[:len(l)])
		if fault.Code(err) != want.code || !same(tree, want.tree) {
			t.Errorf("%s: %s, %v", tellTokens(l), tell(tree), err)
		}
		if !slices.Equal(room, was) {
			t.Errorf("%s: the tokens are now %s", tellTokens(was), tellTokens(room))
		}
	}
}

func TestTokensAreNotKept(t *testing.T) {
	for _, l := range lists() {
		want := read(l)
		var texts [][]byte
		for i := range l {
			b := []byte(l[i].Text)
			texts = append(texts, b)
			l[i].Text = lent(b)
		}
		tree, err := parse.Parse(l)
		for i := range l {
			copy(texts[i], strings.Repeat("#", len(texts[i])))
			l[i] = api.Token{Kind: -1, Text: "spoilt", Num: 99, At: -1}
		}
		if fault.Code(err) != want.code || !same(tree, want.tree) {
			t.Errorf("the tree hangs on the tokens: %s, want %s", tell(tree), tell(want.tree))
		}
		if _, ats := fault.Places(err); err != nil && !slices.Equal(ats, []int{want.at}) {
			t.Errorf("the error hangs on the tokens: %v", err)
		}
	}
}

func TestTextStays(t *testing.T) {
	for _, text := range append(ordinary(), "", "let y = a b;", "let x = A;") {
		tree, err := parse.Text(text)
		want, told := tell(tree), fault.Text(err)
		b := append([]byte(text), " let more 7"...)
		was := slices.Clone(b)
		again, err := parse.Text(lent(b[:len(text)]))
		if !slices.Equal(b, was) {
			t.Errorf("Text(%q): the text is now %q", text, b)
		}
		for i := range b {
			b[i] = '#'
		}
		if tell(again) != want || fault.Text(err) != told {
			t.Errorf("Text(%q) hangs on the text: %s, %v", text, tell(again), err)
		}
	}
}

// clone: the tree, with lists of its own.
func clone(t api.Tree) api.Tree {
	t.Stmts, t.Exprs = slices.Clone(t.Stmts), slices.Clone(t.Exprs)
	for i := range t.Stmts {
		t.Stmts[i].Shape = slices.Clone(t.Stmts[i].Shape)
	}
	for i := range t.Exprs {
		t.Exprs[i].Args = slices.Clone(t.Exprs[i].Args)
	}
	return t
}

// spoil fills a list up to its spare room: that is the answer's own, too.
func spoil[T any](l []T, by T) {
	for i := range l[:cap(l)] {
		l[:cap(l)][i] = by
	}
}

func TestAnswersAreNewMemory(t *testing.T) {
	for _, l := range lists() {
		one, _ := parse.Parse(l)
		two, _ := parse.Parse(l)
		want := clone(two)
		for _, s := range one.Stmts {
			spoil(s.Shape, -99)
		}
		for _, e := range one.Exprs {
			spoil(e.Args, -99)
		}
		spoil(one.Stmts, api.Stmt{Kind: -1, Name: "spoilt", Shape: []int{-1}})
		spoil(one.Exprs, api.Expr{Kind: -1, Name: "spoilt", Args: []int{-1}})
		if !same(two, want) {
			t.Errorf("%s: two answers share memory: %s", tellTokens(l), tell(two))
		}
		check(t, l)
	}
}

// No list of an answer is a piece of another one, nor is its spare room.
func TestListsOfOneAnswer(t *testing.T) {
	for _, l := range lists() {
		tree, _ := parse.Parse(l)
		want := clone(tree)
		for i := range tree.Stmts {
			spoil(tree.Stmts[i].Shape, -99)
			want.Stmts[i].Shape = slices.Repeat([]int{-99}, len(want.Stmts[i].Shape))
			if !same(tree, want) {
				t.Errorf("%s: the shape of statement %d is another list, too", tellTokens(l), i)
			}
		}
		for i := range tree.Exprs {
			spoil(tree.Exprs[i].Args, -99)
			want.Exprs[i].Args = slices.Repeat([]int{-99}, len(want.Exprs[i].Args))
			if !same(tree, want) {
				t.Errorf("%s: the args of expression %d are another list, too", tellTokens(l), i)
			}
		}
	}
}

// No call hangs on those ahead of it, as far as they may have come.
func TestCallsStandAlone(t *testing.T) {
	for _, a := range lists() {
		for _, b := range lists() {
			parse.Parse(a)
			check(t, b)
		}
	}
}

func FuzzText(f *testing.F) {
	for _, text := range append(ordinary(), "output y", "let = 1;", "let y = "+strings.Repeat("-", 33)+"a;", strings.Repeat("output x;", 65)) {
		f.Add(text)
	}
	f.Fuzz(func(t *testing.T, text string) {
		tree, err := parse.Text(text)
		if places, _ := fault.Places(err); err == nil {
			checkPrinted(t, tree)
		} else if len(tree.Stmts)+len(tree.Exprs) != 0 || len(places) != 1 {
			t.Errorf("Text(%q): %s, %v", text, tell(tree), err)
		}
	})
}

// Each byte is a token.
func FuzzParse(f *testing.F) {
	sorts := each()
	for _, text := range ordinary() {
		var b []byte
		for _, token := range tokensOf(text) {
			b = append(b, byte(max(0, slices.IndexFunc(sorts, func(s api.Token) bool { return s.Kind == token.Kind && s.Text == token.Text }))))
		}
		f.Add(b)
	}
	f.Fuzz(func(t *testing.T, b []byte) {
		var l []api.Token
		for _, c := range b[:min(len(b), 300)] {
			l = append(l, sorts[int(c)%len(sorts)])
		}
		check(t, placed(l))
	})
}
