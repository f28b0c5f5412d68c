package lex_test

import (
	"math/big"
	"regexp"
	"slices"
	"strings"
	"testing"

	"twain/api"
	"twain/fault"
	"twain/lex"
)

// The chapter's words once more, by patterns and great numbers, apart from the program.

const (
	// mostBytes is the greatest length of a text.
	mostBytes = 4096
	// mostTokens is the greatest number of tokens.
	mostTokens = 512
	// mostInName is the greatest length of a name.
	mostInName = 16
	// greatest is the greatest number.
	greatest = "18446744073709551615"
)

var (
	between = regexp.MustCompile(`^(?:[ \n\t\r]|#[^\n]*)*`)
	name    = regexp.MustCompile(`^[a-z][a-z0-9_]*`)
	digits  = regexp.MustCompile(`^[0-9]+`)
	number  = regexp.MustCompile(`^(?:0|[1-9][0-9]*)$`)
	letter  = regexp.MustCompile(`^[a-z_]`)
	sign    = regexp.MustCompile(`^(?:>>|[-+*@<=()\[\],;])`)
)

func words() []string {
	return []string{"input", "let", "output", "relu", "sum", "argmax", "max", "mux"}
}

func signs() []string {
	return []string{"+", "-", "*", "@", "<", "=", "(", ")", "[", "]", ",", ";", ">>"}
}

// answer: what a Scan answers: tokens, or an error's number and byte.
type answer struct {
	tokens []api.Token
	code   api.Errno
	at     int
}

// read: what Scan must answer.
func read(text string) answer {
	if len(text) > mostBytes {
		return answer{code: api.ErrLong, at: len(text)}
	}
	var tokens []api.Token
	for at := 0; ; {
		at += len(between.FindString(text[at:]))
		if at == len(text) {
			return answer{tokens: append(tokens, api.Token{At: at})}
		}
		token, ok := readOne(text[at:])
		if !ok {
			return answer{code: api.ErrLex, at: at}
		}
		if len(tokens) == mostTokens {
			return answer{code: api.ErrFull, at: at}
		}
		token.At = at
		tokens = append(tokens, token)
		at += len(token.Text)
	}
}

// readOne: the token at the text's beginning.
func readOne(text string) (api.Token, bool) {
	if s := name.FindString(text); s != "" {
		if slices.Contains(words(), s) {
			return api.Token{Kind: api.TokWord, Text: s}, true
		}
		return api.Token{Kind: api.TokName, Text: s}, len(s) <= mostInName
	}
	if s := digits.FindString(text); s != "" {
		n, _ := new(big.Int).SetString(s, 10)
		most, _ := new(big.Int).SetString(greatest, 10)
		ok := number.MatchString(s) && !letter.MatchString(text[len(s):]) && n.Cmp(most) <= 0
		return api.Token{Kind: api.TokNumber, Text: s, Num: n.Uint64()}, ok
	}
	s := sign.FindString(text)
	return api.Token{Kind: api.TokSign, Text: s}, s != ""
}

// short: a text that can be told.
func short(text string) string {
	if len(text) > 60 {
		return text[:25] + " .. " + text[len(text)-25:]
	}
	return text
}

// checkAnswer: is this what Scan answers, to the last byte?
func checkAnswer(t *testing.T, text string, want answer) {
	t.Helper()
	tokens, err := lex.Scan(text)
	if want.code != api.OK {
		checkError(t, text, tokens, err, want)
		return
	}
	if err != nil || !slices.Equal(tokens, want.tokens) {
		t.Errorf("Scan(%q): %v, %v, want %v", short(text), tokens, err, want.tokens)
	}
}

// checkError: is it that number, in the place lex with that byte, and no token beside?
func checkError(t *testing.T, text string, tokens []api.Token, err error, want answer) {
	t.Helper()
	places, ats := fault.Places(err)
	if fault.Code(err) != want.code || !slices.Equal(places, []string{"lex"}) || !slices.Equal(ats, []int{want.at}) {
		t.Errorf("Scan(%q) of %d bytes: error %v, want %d at %d", short(text), len(text), err, want.code, want.at)
	}
	if len(tokens) != 0 {
		t.Errorf("Scan(%q): %d tokens beside an error", short(text), len(tokens))
	}
}

// check holds Scan against the reader, and what it takes against itself, joined with blanks.
func check(t *testing.T, text string) {
	t.Helper()
	want := read(text)
	checkAnswer(t, text, want)
	if want.code == api.OK {
		checkJoined(t, want.tokens)
	}
}

// checkJoined: are the tokens' texts, joined with blanks, scanned to the same kinds, texts and numbers?
func checkJoined(t *testing.T, tokens []api.Token) {
	t.Helper()
	var texts []string
	want := slices.Clone(tokens)
	at := 0
	for i, token := range tokens {
		texts = append(texts, token.Text)
		want[i].At = at
		at += len(token.Text) + 1
	}
	joined := strings.Join(texts, " ")
	if len(joined) > mostBytes {
		checkAnswer(t, joined, answer{code: api.ErrLong, at: len(joined)})
		return
	}
	checkAnswer(t, joined, answer{tokens: want})
}

// checkAll holds Scan against the reader for each text.
func checkAll(t *testing.T, texts ...string) {
	t.Helper()
	for _, text := range texts {
		check(t, text)
	}
}

// checkRefused: is each text refused, with this number at this byte?
func checkRefused(t *testing.T, code api.Errno, at int, texts ...string) {
	t.Helper()
	for _, text := range texts {
		checkAnswer(t, text, answer{code: code, at: at})
	}
}
