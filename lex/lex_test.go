package lex_test

import (
	"math/big"
	"slices"
	"strconv"
	"strings"
	"testing"
	"unsafe"

	"twain/api"
	"twain/fault"
	"twain/lex"
)

// noise tells the same numbers in each run.
type noise uint64

func (s *noise) word() uint64 {
	*s += 0x9e3779b97f4a7c15
	x := uint64(*s)
	x = (x ^ x>>30) * 0xbf58476d1ce4e5b9
	x = (x ^ x>>27) * 0x94d049bb133111eb
	return x ^ x>>31
}

// below: a number from 0 to n - 1.
func (s *noise) below(n int) int { return int(s.word() % uint64(n)) }

// of: one of the texts.
func (s *noise) of(texts []string) string { return texts[s.below(len(texts))] }

// run: a text of n of these bytes.
func (s *noise) run(from string, n int) string {
	b := make([]byte, n)
	for i := range b {
		b[i] = from[s.below(len(from))]
	}
	return string(b)
}

const (
	letters  = "abcdefghijklmnopqrstuvwxyz"
	numerals = "0123456789"
	inName   = letters + numerals + "_"
	blanks   = " \n\t\r"
)

// char: a text of one byte.
func char(b int) string { return string([]byte{byte(b)}) }

// pad lays bytes behind a text, up to this length.
func pad(text string, size int, by string) string { return text + strings.Repeat(by, size-len(text)) }

// tok: a token; a number's has its value.
func tok(kind api.Kind, text string, at int) api.Token {
	token := api.Token{Kind: kind, Text: text, At: at}
	if kind == api.TokNumber {
		n, _ := new(big.Int).SetString(text, 10)
		token.Num = n.Uint64()
	}
	return token
}

// kindOf: the kind of an ordinary token, by its first byte.
func kindOf(text string) api.Kind {
	switch {
	case slices.Contains(words(), text):
		return api.TokWord
	case strings.Contains(letters, text[:1]):
		return api.TokName
	case strings.Contains(numerals, text[:1]):
		return api.TokNumber
	}
	return api.TokSign
}

// checkTokens: are just these tokens scanned, the end's too?
func checkTokens(t *testing.T, text string, tokens ...api.Token) {
	t.Helper()
	checkAnswer(t, text, answer{tokens: append(tokens, api.Token{Kind: api.TokEnd, At: len(text)})})
}

// checkFound: are just these ordinary tokens scanned, each one where the text has it next?
func checkFound(t *testing.T, text string, parts ...string) {
	t.Helper()
	var tokens []api.Token
	at := 0
	for _, part := range parts {
		i := strings.Index(text[at:], part)
		if i < 0 {
			t.Fatalf("%q isn't in %q", part, short(text[at:]))
		}
		tokens = append(tokens, tok(kindOf(part), part, at+i))
		at += i + len(part)
	}
	checkTokens(t, text, tokens...)
}

// ordinary: tokens of all kinds.
func ordinary() []string {
	return slices.Concat(words(), signs(), []string{"x", "z9", "y_", "lets", "abcdefghijklmnop", "0", "7", "10", greatest})
}

// noTokens: each is none from its first byte on.
func noTokens() []string {
	return []string{"A", "$", ">", "> >", "01", "00", "1a", "1_", "0a", "_", "_a", ".", "\x00", "\x7f", "\x80", "\xff", "\u00e9", greatest + "0", "18446744073709551616", "abcdefghijklmnopq"}
}

func TestExamples(t *testing.T) {
	checkTokens(t, "let y = x>>2; # z",
		tok(api.TokWord, "let", 0), tok(api.TokName, "y", 4), tok(api.TokSign, "=", 6), tok(api.TokName, "x", 8),
		tok(api.TokSign, ">>", 9), tok(api.TokNumber, "2", 11), tok(api.TokSign, ";", 12))
	checkRefused(t, api.ErrLex, 0, "1a", "01", "A", "18446744073709551616")
	checkRefused(t, api.ErrLex, 2, "x > 1")
}

// source: an ordinary text, with all words and signs; no token stands in its remarks.
const source = `# TWO PARTIES
input 0 x [2,3];
	input 1 y [3, 2]; # THE OTHER ONE
let m = x @ y - -(1 * 7);
let big_1 = mux(sum(m) < 18446744073709551615, max(m, 0), relu(m) + m>>2);
output big_1;` + "\r\n" + `output argmax;# THE END`

func TestOrdinaryText(t *testing.T) {
	checkFound(t, source, strings.Fields("input 0 x [ 2 , 3 ] ; input 1 y [ 3 , 2 ] ; let m = x @ y - - ( 1 * 7 ) ; let big_1 = mux ( sum ( m ) < 18446744073709551615 , max ( m , 0 ) , relu ( m ) + m >> 2 ) ; output big_1 ; output argmax ;")...)
	check(t, source)
}

func TestNothingButTheEnd(t *testing.T) {
	for _, text := range []string{
		"", " ", "\n", "\t", "\r", " \n\t\r", "\r\n\r\n", "#", "##", "# ", "#\n", "#\n#", "\n#", " # a", "# a\n", "# a\n# b", "# a\n\n\n# b\n",
		"#let y = 2;", "# A $ 01 1a > \x00\x7f\x80\xff\r\t end", "#\r#\r", "#\u20ac\n", "#\xff\n\t", "# a # b\n # c",
		strings.Repeat(" ", mostBytes), strings.Repeat("\n", mostBytes), strings.Repeat("#", mostBytes), strings.Repeat("#\n", mostBytes/2),
		pad("#", mostBytes, "A"), pad("# a\n", mostBytes, " "), strings.Repeat(blanks, mostBytes/4),
	} {
		checkTokens(t, text)
		check(t, text)
	}
}

// What is a blank elsewhere is none here.
func TestOtherBlanks(t *testing.T) {
	checkRefused(t, api.ErrLex, 0, "\v", "\f", "\x00", "\x85", "\xa0", "\u00a0", "\u2028", "\ufeff", "\x1a", "\x7f")
	checkRefused(t, api.ErrLex, 2, "x \v", "7\t\f", "; \u00a0x")
}

func TestRemarks(t *testing.T) {
	for _, text := range ordinary() {
		token := tok(kindOf(text), text, 0)
		for _, remark := range []string{"#", "##", "#x", "# A", "#>", "#\r", "#\t7", "#\x00\xff", "# " + text, " #", "\n#\n#"} {
			checkTokens(t, text+remark, token)
			checkTokens(t, text+remark+"\n", token)
			checkTokens(t, text+remark+"\n;", token, tok(api.TokSign, ";", len(text+remark)+1))
			checkRefused(t, api.ErrLex, len(text+remark)+1, text+remark+"\nA", text+remark+"\n>")
		}
	}
	checkTokens(t, "le#t\nt", tok(api.TokName, "le", 0), tok(api.TokName, "t", 5))
	checkTokens(t, "1#\n2#\n3", tok(api.TokNumber, "1", 0), tok(api.TokNumber, "2", 3), tok(api.TokNumber, "3", 6))
	checkTokens(t, "#a\r7\n7", tok(api.TokNumber, "7", 5))
	checkRefused(t, api.ErrLex, 0, ">#>", ">#\n>", "01#", "1a#", "A#")
}

// Any byte may stand in a remark; the byte 10 alone ends it.
func TestBytesOfRemarks(t *testing.T) {
	for b := range 256 {
		x := tok(api.TokName, "x", 0)
		checkTokens(t, "#"+char(b)+"\ny", tok(api.TokName, "y", 3))
		checkTokens(t, "x#"+char(b), x)
		checkTokens(t, "x #"+char(b)+char(b), x)
		if b != '\n' {
			checkTokens(t, "x#"+char(b)+"y", x)
			checkTokens(t, "x#"+char(b)+"A\n", x)
		}
	}
	checkTokens(t, "x#\ny", tok(api.TokName, "x", 0), tok(api.TokName, "y", 3))
}

func TestLongTexts(t *testing.T) {
	for _, text := range []string{
		strings.Repeat(" ", mostBytes), strings.Repeat("#", mostBytes), pad("x", mostBytes, " "), pad("x#", mostBytes, "y"),
		pad("# 1\n", mostBytes-1, "\r") + "x", pad("let y = 2;", mostBytes, "\n"), strings.Repeat("a234567 ", mostTokens),
		strings.Repeat("abcdefghijklmno+", mostTokens/2),
	} {
		if got := read(text); len(text) != mostBytes || got.code != api.OK {
			t.Fatalf("%q: %d bytes, %v", short(text), len(text), got.code)
		}
		checkAll(t, text, text[:mostBytes-1])
		for _, more := range []string{" ", "\n", "#", "x", "A", "+", "\x00", "\xff", strings.Repeat(" ", mostBytes), strings.Repeat("$", 1<<20)} {
			checkRefused(t, api.ErrLong, len(text)+len(more), text+more)
		}
	}
}

// A text that is too long isn't looked at; in one that is just as long as may be each thing is.
func TestTooLongAheadOfAll(t *testing.T) {
	for _, c := range []struct {
		by   string
		code api.Errno
		at   int
	}{
		{"A", api.ErrLex, 0}, {"a", api.ErrLex, 0}, {"1", api.ErrLex, 0}, {"0", api.ErrLex, 0}, {"\xff", api.ErrLex, 0},
		{"+", api.ErrFull, mostTokens}, {">", api.ErrFull, 2 * mostTokens},
	} {
		checkRefused(t, c.code, c.at, strings.Repeat(c.by, mostBytes))
		for _, n := range []int{mostBytes + 1, mostBytes + 2, 2 * mostBytes, 1 << 16, 1 << 20} {
			checkRefused(t, api.ErrLong, n, strings.Repeat(c.by, n), pad(c.by, n, " "), pad("#", n, c.by))
		}
	}
	checkRefused(t, api.ErrLex, mostBytes-1, pad("", mostBytes-1, " ")+"A", pad("", mostBytes-1, "\n")+">", pad("x", mostBytes-1, "\t")+"_")
}

// fullLists: texts of as many tokens as there may be.
func fullLists() []string {
	return []string{
		strings.Repeat("+", mostTokens), strings.Repeat(">>", mostTokens), strings.Repeat("x ", mostTokens), strings.Repeat("7\n", mostTokens),
		strings.Repeat("let ", mostTokens), strings.Repeat("x=1;", mostTokens/4), strings.Repeat("0#\n", mostTokens), strings.Repeat("#\n;", mostTokens),
		strings.Repeat("a1;", mostTokens/4) + " # HALF\n" + strings.Repeat("([-@", mostTokens/8),
	}
}

func TestFullLists(t *testing.T) {
	for _, text := range fullLists() {
		for _, behind := range []string{"", " ", "\n", "#", "# A ; x 01", " \t\r\n", "#\n#", "  # >\n  "} {
			check(t, text+behind)
			if tokens, err := lex.Scan(text + behind); err != nil || len(tokens) != mostTokens+1 || tokens[mostTokens] != tok(api.TokEnd, "", len(text+behind)) {
				t.Errorf("%d tokens of %q, %v", len(tokens), short(text+behind), err)
			}
			whole := text + behind + "\n"
			for _, more := range ordinary() {
				checkRefused(t, api.ErrFull, len(whole), whole+more, whole+more+" ", whole+more+" A", whole+more+"\n;", whole+more+"#")
			}
			for _, more := range noTokens() {
				checkRefused(t, api.ErrLex, len(whole), whole+more, whole+more+" x", whole+more+"\n;")
			}
		}
	}
}

func TestListsOverFull(t *testing.T) {
	plus, shifts := strings.Repeat("+", mostTokens), strings.Repeat(">>", mostTokens)
	checkRefused(t, api.ErrFull, mostTokens, plus+"+", plus+"++", plus+";A", plus+";>", plus+"x", plus+"0")
	checkRefused(t, api.ErrLex, mostTokens, plus+"A", plus+">", plus+">+", plus+"01", plus+"\x00;")
	checkRefused(t, api.ErrFull, 2*mostTokens, strings.Repeat("x ", mostTokens+1), shifts+">>", shifts+">>>")
	checkRefused(t, api.ErrLex, 2*mostTokens, shifts+">", shifts+"> >")
	for n := range mostTokens + 1 {
		if tokens, err := lex.Scan(plus[:n]); err != nil || len(tokens) != n+1 {
			t.Errorf("%d signs: %d tokens, %v", n, len(tokens), err)
		}
	}
}

// What is wrong first is told, whatever is wrong behind it.
func TestFirstErrorFirst(t *testing.T) {
	for _, a := range noTokens() {
		for _, b := range noTokens() {
			checkRefused(t, api.ErrLex, 0, a+" "+b, a+"\n"+b, a+"#"+b+"\n"+b)
			checkRefused(t, api.ErrLex, 2, "x "+a+" "+b, " \t"+a+"\n"+b, "7\n"+a+" x "+b, ";;"+a+" "+b)
			checkRefused(t, api.ErrLex, len(b)+2, "#"+b+"\n"+a)
		}
		checkRefused(t, api.ErrLex, 0, a+strings.Repeat(" +", mostTokens+1))
		checkRefused(t, api.ErrLex, mostTokens-1, strings.Repeat("+", mostTokens-1)+a+" ++++")
		checkRefused(t, api.ErrLex, mostTokens, strings.Repeat("+", mostTokens)+a+" +")
		checkRefused(t, api.ErrFull, mostTokens, strings.Repeat("+", mostTokens+1)+a)
		checkRefused(t, api.ErrLong, mostBytes+1, pad(a, mostBytes+1, " "), pad("", mostBytes+1-len(a), "+")+a)
	}
}

func TestNames(t *testing.T) {
	s := noise(1)
	for _, c := range letters {
		checkTokens(t, string(c), tok(api.TokName, string(c), 0))
		for _, next := range inName {
			text := string(c) + string(next)
			checkTokens(t, text, tok(api.TokName, text, 0))
			checkTokens(t, " "+text+text+";", tok(api.TokName, text+text, 1), tok(api.TokSign, ";", 5))
		}
	}
	for n := 1; n <= 40; n++ {
		for range 20 {
			text := s.run(letters, 1) + s.run(inName, n-1)
			if slices.Contains(words(), text) {
				continue
			}
			if n <= mostInName {
				checkTokens(t, text+"+"+text, tok(api.TokName, text, 0), tok(api.TokSign, "+", n), tok(api.TokName, text, n+1))
				checkRefused(t, api.ErrLex, n, text+"A", text+">", text+"\x00", text+"\xff", text+".")
			} else {
				checkRefused(t, api.ErrLex, 0, text, text+";", text+"A", text+"#")
				checkRefused(t, api.ErrLex, 3, "x  "+text, ";#\n"+text+" x")
			}
		}
	}
}

func TestLongNames(t *testing.T) {
	for _, by := range []string{"a", "z", "0", "9", "_", "let", "1_"} {
		full := ("x" + strings.Repeat(by, mostInName))[:mostInName]
		checkTokens(t, full, tok(api.TokName, full, 0))
		for _, behind := range []string{" ", "\n", "#", "+", ">>", "(", "=", "A", ">"} {
			check(t, full+behind+"1")
		}
		for _, more := range inName {
			checkRefused(t, api.ErrLex, 0, full+string(more), full+string(more)+" x", full+string(more)+"A")
		}
	}
}

func TestWords(t *testing.T) {
	for _, word := range words() {
		checkTokens(t, word, tok(api.TokWord, word, 0))
		checkTokens(t, "("+word+")", tok(api.TokSign, "(", 0), tok(api.TokWord, word, 1), tok(api.TokSign, ")", len(word)+1))
		checkTokens(t, "7 "+word, tok(api.TokNumber, "7", 0), tok(api.TokWord, word, 2))
		checkRefused(t, api.ErrLex, 0, "7"+word, strings.ToUpper(word), strings.ToUpper(word[:1])+word[1:], "_"+word)
		checkRefused(t, api.ErrLex, len(word), word+"A", word+".", word+">")
		for _, c := range inName {
			checkTokens(t, word+string(c), tok(api.TokName, word+string(c), 0))
		}
		for _, c := range letters {
			checkTokens(t, string(c)+word, tok(api.TokName, string(c)+word, 0))
		}
		for i := range word {
			for _, near := range []string{word[:i] + word[i+1:], word[:i], word[i+1:], word[:i] + "_" + word[i+1:], word[:i] + word[i:i+1] + word[i:]} {
				check(t, near)
			}
		}
		for _, other := range words() {
			checkTokens(t, word+other, tok(api.TokName, word+other, 0))
			checkTokens(t, word+" "+other, tok(api.TokWord, word, 0), tok(api.TokWord, other, len(word)+1))
		}
	}
}

// What other languages, or other layers, keep for themselves is a name here.
func TestNoWords(t *testing.T) {
	for _, text := range []string{"min", "mul", "if", "for", "in", "out", "end", "inputs", "outputs", "lets", "let_", "relu6", "sums", "argmin", "arg", "maxx", "mu", "ux", "func", "eval"} {
		checkTokens(t, text, tok(api.TokName, text, 0))
	}
}

// numbers: those around each power of two and of ten, small ones, and others.
func numbers() []*big.Int {
	var l []*big.Int
	near := func(n *big.Int) {
		for d := int64(-2); d <= 2; d++ {
			if m := new(big.Int).Add(n, big.NewInt(d)); m.Sign() >= 0 {
				l = append(l, m)
			}
		}
	}
	for i := range 80 {
		near(new(big.Int).Lsh(big.NewInt(1), uint(i)))
	}
	for i := range int64(25) {
		near(new(big.Int).Exp(big.NewInt(10), big.NewInt(i), nil))
	}
	s := noise(2)
	for n := range int64(1000) {
		l = append(l, big.NewInt(n), new(big.Int).SetUint64(s.word()), new(big.Int).Mul(new(big.Int).SetUint64(s.word()), big.NewInt(n)))
	}
	return l
}

func TestNumbers(t *testing.T) {
	for _, n := range numbers() {
		text := n.String()
		if n.IsUint64() {
			want := api.Token{Kind: api.TokNumber, Text: text, Num: n.Uint64()}
			checkTokens(t, text, want)
			checkTokens(t, text+"#", want)
			checkTokens(t, text+">>", want, tok(api.TokSign, ">>", len(text)))
			checkRefused(t, api.ErrLex, len(text), text+"A", text+">", text+".", text+"$")
		} else {
			checkRefused(t, api.ErrLex, 0, text, text+" ", text+";", text+"A", text+"#")
			checkRefused(t, api.ErrLex, 2, "x "+text)
		}
		if text != "0" {
			checkRefused(t, api.ErrLex, 0, "0"+text, "00"+text, "0"+text+" x", "0000000000000000000000"+text)
		}
		checkRefused(t, api.ErrLex, 0, text+"a", text+"z", text+"_", text+"x1", text+"_1")
	}
}

func TestEdgesOfNumbers(t *testing.T) {
	checkTokens(t, "0", api.Token{Kind: api.TokNumber, Text: "0"})
	checkTokens(t, greatest, api.Token{Kind: api.TokNumber, Text: greatest, Num: 1<<64 - 1})
	checkTokens(t, "18446744073709551614", api.Token{Kind: api.TokNumber, Text: "18446744073709551614", Num: 1<<64 - 2})
	checkTokens(t, "10000000000000000000", api.Token{Kind: api.TokNumber, Text: "10000000000000000000", Num: 1e19})
	checkTokens(t, "0 0", tok(api.TokNumber, "0", 0), tok(api.TokNumber, "0", 2))
	checkTokens(t, "0+1", tok(api.TokNumber, "0", 0), tok(api.TokSign, "+", 1), tok(api.TokNumber, "1", 2))
	checkTokens(t, "-1", tok(api.TokSign, "-", 0), tok(api.TokNumber, "1", 1))
	checkTokens(t, "x0", tok(api.TokName, "x0", 0))
	checkRefused(t, api.ErrLex, 0,
		"00", "01", "000", "00000000000000000000", "000000000000000000000", "010", "0_", "0a", "0x1", "0b1", "1e5", "1_000", "00a", "01_", "1__", "9z",
		"18446744073709551616", "18446744073709551620", "18446744073709551625", "20000000000000000000", "36893488147419103232", "99999999999999999999",
		"100000000000000000000", "184467440737095516150", "018446744073709551615", "018446744073709551616", "18446744073709551615a", "18446744073709551616_",
		strings.Repeat("9", 21), strings.Repeat("1", 40), strings.Repeat("7", mostBytes), "1"+strings.Repeat("0", mostBytes-1))
	checkRefused(t, api.ErrLex, 1, "1A", "0Z", "1.5", "1>", "1>1", "0$", "1\x00", "1\xff", "1\u00e9", "+01", "-1a", "(00)")
	checkRefused(t, api.ErrLex, 2, "0 00", "1 01", "1+1a", "10Z", "x 1_")
}

func TestSigns(t *testing.T) {
	for _, a := range signs() {
		checkTokens(t, a, tok(api.TokSign, a, 0))
		checkTokens(t, "x"+a, tok(api.TokName, "x", 0), tok(api.TokSign, a, 1))
		checkTokens(t, a+"x", tok(api.TokSign, a, 0), tok(api.TokName, "x", len(a)))
		checkTokens(t, "7"+a+"7", tok(api.TokNumber, "7", 0), tok(api.TokSign, a, 1), tok(api.TokNumber, "7", len(a)+1))
		checkRefused(t, api.ErrLex, len(a), a+">", a+"> >", a+">"+"x", a+"$")
		for _, b := range signs() {
			checkTokens(t, a+b, tok(api.TokSign, a, 0), tok(api.TokSign, b, len(a)))
			checkTokens(t, a+b+a, tok(api.TokSign, a, 0), tok(api.TokSign, b, len(a)), tok(api.TokSign, a, len(a+b)))
		}
	}
	// What is a sign elsewhere is none here; nor are two of these ever one but >>.
	checkRefused(t, api.ErrLex, 0, "/", "%", "&", "|", "^", "!", "~", "?", ":", ".", "{", "}", "\"", "'", "\\", "`", "$", "_")
	checkTokens(t, "<<", tok(api.TokSign, "<", 0), tok(api.TokSign, "<", 1))
	checkTokens(t, "==", tok(api.TokSign, "=", 0), tok(api.TokSign, "=", 1))
	checkTokens(t, "<=", tok(api.TokSign, "<", 0), tok(api.TokSign, "=", 1))
	checkTokens(t, "--", tok(api.TokSign, "-", 0), tok(api.TokSign, "-", 1))
}

func TestShifts(t *testing.T) {
	var tokens []api.Token
	for n := range 20 {
		run := strings.Repeat(">", n)
		if n%2 == 1 {
			checkRefused(t, api.ErrLex, n-1, run, run+"x", run+" >", run+"=", run+"#>", run+"\n>")
			checkRefused(t, api.ErrLex, n+1, "x "+run, "7 "+run+" 7")
			continue
		}
		checkTokens(t, run, tokens...)
		checkTokens(t, run+"#>", tokens...)
		tokens = append(slices.Clip(tokens), tok(api.TokSign, ">>", n))
	}
	checkRefused(t, api.ErrLex, 0, ">", "> ", "> >", ">\n>", ">#\n>", ">=", ">x", ">1", ">\x00>")
	checkTokens(t, "a>>b", tok(api.TokName, "a", 0), tok(api.TokSign, ">>", 1), tok(api.TokName, "b", 3))
	checkTokens(t, ">> >>", tok(api.TokSign, ">>", 0), tok(api.TokSign, ">>", 3))
}

// beginsNone: can no token begin with this byte, nor it stand between tokens?
func beginsNone(b int) bool {
	return !strings.Contains(letters+numerals+blanks+"#+-*@<=()[],;>", char(b))
}

func TestEachByteAlone(t *testing.T) {
	none := 0
	for b := range 256 {
		switch c := char(b); {
		case strings.Contains(blanks+"#", c):
			checkTokens(t, c)
		case beginsNone(b) || c == ">":
			checkRefused(t, api.ErrLex, 0, c, c+" ", c+"\n"+c)
			none++
		default:
			checkTokens(t, c, tok(kindOf(c), c, 0))
		}
		check(t, char(b))
	}
	if none != 256-26-10-5-12 {
		t.Errorf("%d bytes begin no token", none)
	}
}

func TestEachByteBesideTokens(t *testing.T) {
	for b := range 256 {
		c := char(b)
		for _, text := range append(ordinary(), "", " ", "# r", "# r\n", ">") {
			checkAll(t, c+text, text+c, text+c+text, c+text+c, text+" "+c, c+" "+text, text+c+" ", " "+c+text, text+"\n"+c+c+text)
		}
		if !beginsNone(b) {
			continue
		}
		for _, text := range ordinary() {
			checkRefused(t, api.ErrLex, 0, c+text, c+" "+text)
			checkRefused(t, api.ErrLex, len(text)+1, text+" "+c, text+"\n"+c+text)
			if k := kindOf(text); c != "_" || k == api.TokSign {
				checkRefused(t, api.ErrLex, len(text), text+c, text+c+text)
			}
		}
	}
}

// All texts of up to two bytes.
func TestAllPairsOfBytes(t *testing.T) {
	for a := range 256 {
		check(t, char(a))
		for b := range 256 {
			check(t, char(a)+char(b))
		}
	}
}

// All texts of up to five bytes, of one of each sort.
func TestAllShortTexts(t *testing.T) {
	sorts := []string{"a", "0", "1", "_", ">", "+", " ", "\n", "#", "A", "\xff"}
	texts := []string{""}
	for range 5 {
		var longer []string
		for _, text := range texts {
			for _, c := range sorts {
				longer = append(longer, text+c)
				check(t, text+c)
			}
		}
		texts = longer
	}
}

// apart: must something stand between these two tokens?
func apart(a, b string) bool {
	return strings.Contains(inName, a[len(a)-1:]) && strings.Contains(inName, b[:1])
}

// gap: what may stand between two tokens.
func (s *noise) gap(must bool) string {
	gaps := []string{" ", "\n", "\t", "\r", "  ", " \n", "#\n", "# a 01 A > $\n", "\r\n\t", " #;\n#\n "}
	if !must && s.below(2) == 0 {
		return ""
	}
	return s.of(gaps)
}

// token: any token's text.
func (s *noise) token() string {
	switch s.below(4) {
	case 0:
		return s.run(letters, 1) + s.run(inName, s.below(mostInName))
	case 1:
		return strconv.FormatUint(s.word()>>s.below(64), 10)
	case 2:
		return s.of(signs())
	}
	return s.of(words())
}

// Tokens that are laid down one by one, with what may stand between them: just those are scanned.
func TestTokensLaidDown(t *testing.T) {
	s := noise(3)
	for range 4000 {
		text := s.gap(false)
		var tokens []api.Token
		last := ";"
		for range s.below(60) {
			token := s.token()
			text += s.gap(apart(last, token))
			tokens = append(tokens, tok(kindOf(token), token, len(text)))
			text += token
			last = token
		}
		text += s.gap(false) + s.of([]string{"", "", "#", "# A", "\n"})
		checkTokens(t, text, tokens...)
		check(t, text)
		for _, wrong := range []string{"A", ">", "01", "\x80"} {
			checkRefused(t, api.ErrLex, len(text)+2, text+"\n "+wrong)
		}
	}
}

func TestNoise(t *testing.T) {
	s := noise(4)
	every := ""
	for b := range 256 {
		every += char(b)
	}
	for _, from := range []string{every, inName + blanks, "ab01_>+# \n", "let inpu#\n", ">>>> x", numerals + " ", "+-*@<=()[],;> \t"} {
		for range 5000 {
			check(t, s.run(from, s.below(40)))
		}
		for range 50 {
			check(t, s.run(from, s.below(mostBytes+20)))
		}
	}
}

// An ordinary text with a byte turned, left out or put in.
func TestSpoiltText(t *testing.T) {
	for at := range len(source) {
		for bit := range 8 {
			check(t, source[:at]+char(int(source[at])^1<<bit)+source[at+1:])
		}
		checkAll(t, source[:at], source[at:], source[:at]+source[at+1:], source[:at]+" "+source[at:], source[:at]+"#"+source[at:], source[:at]+">"+source[at:], source[:at]+"0"+source[at:])
	}
}

func TestJoinedAgain(t *testing.T) {
	for _, text := range append(fullLists(), source, "", "#", "a>>>>b", "x=-1;", "abcdefghijklmnop+"+greatest) {
		got, err := lex.Scan(text)
		if err != nil {
			t.Fatal(err)
		}
		var texts []string
		for _, token := range got {
			texts = append(texts, token.Text)
		}
		joined := strings.Join(texts, " ")
		again, err := lex.Scan(joined)
		if err != nil || len(again) != len(got) {
			t.Fatalf("%q, joined: %d tokens, %v, want %d", short(text), len(again), err, len(got))
		}
		for i, token := range again {
			if token.Kind != got[i].Kind || token.Text != got[i].Text || token.Num != got[i].Num {
				t.Errorf("%q, joined: %v, was %v", short(text), token, got[i])
			}
		}
	}
}

// lent: a text that stands on bytes, which may be spoilt behind it.
func lent(b []byte) string { return unsafe.String(unsafe.SliceData(b), len(b)) }

func TestTextIsNeitherChangedNorKept(t *testing.T) {
	for _, text := range append(ordinary(), source, fullLists()[5], "x # y") {
		want := read(text)
		b := append([]byte(text), "let more 7"...)
		was := slices.Clone(b)
		tokens, err := lex.Scan(lent(b[:len(text)]))
		if err != nil || !slices.Equal(b, was) {
			t.Fatalf("Scan(%q): %v; the text is now %q", short(text), err, b)
		}
		for i := range b {
			b[i] = '#'
		}
		if !slices.Equal(tokens, want.tokens) {
			t.Errorf("Scan(%q): tokens hang on the text: %v", short(text), tokens)
		}
	}
	b := []byte("x 01")
	_, err := lex.Scan(lent(b))
	copy(b, "####")
	if fault.Text(err) != "lex@2: errno 120" {
		t.Errorf("the error hangs on the text: %v", err)
	}
}

func TestAnswersAreNewMemory(t *testing.T) {
	for _, text := range append(ordinary(), source, "", "#", fullLists()[0]) {
		want := read(text)
		one, _ := lex.Scan(text)
		two, _ := lex.Scan(text)
		// Up to the spare room: that is the answer's own, too.
		for i := range one[:cap(one)] {
			one[:cap(one)][i] = api.Token{Kind: -1, Text: "spoilt", Num: 99, At: -1}
		}
		if !slices.Equal(two, want.tokens) {
			t.Errorf("Scan(%q): two answers share memory: %v", short(text), two)
		}
		checkAnswer(t, text, want)
	}
}

// No call hangs on those ahead of it.
func TestCallsStandAlone(t *testing.T) {
	texts := append(noTokens(), source, "", "x", strings.Repeat("+", mostTokens+1), strings.Repeat(" ", mostBytes+1))
	for _, a := range texts {
		for _, b := range texts {
			want := read(b)
			lex.Scan(a)
			checkAnswer(t, b, want)
		}
	}
}

func FuzzScan(f *testing.F) {
	for _, text := range append(noTokens(), source, "let y = x>>2; # z", "x#", ">>>") {
		f.Add(text)
	}
	f.Fuzz(func(t *testing.T, text string) { check(t, text) })
}
