package parse_test

import (
	"math"
	"slices"
	"strconv"
	"strings"
	"testing"

	"twain/api"
	"twain/parse"
)

// Lists of tokens: their ends, the limits, and what no text has.

func TestNothing(t *testing.T) {
	for _, l := range [][]api.Token{nil, {}, list("END"), list("END END"), {{Kind: api.TokEnd, Text: "let", At: -5, Num: 3}}, list("END let = = 7")} {
		checkTold(t, l, "|")
		check(t, l)
	}
	for _, text := range []string{"", " ", "\n", "# nothing", " \t\r\n# a\n#b\n"} {
		checkText(t, text, "|")
	}
}

func TestEndOfTheList(t *testing.T) {
	const told = "output.x@10 let.y@40 | number:7@70"
	l := list("output x ; let y = 7 ;")
	checkTold(t, l, told)
	checkTold(t, append(slices.Clone(l), tok("END")), told)
	for _, behind := range []string{"let", ";", "END", "7 7 7", "output x", "( ( (", "] [ x let >>", times("output x ;", 100), times("(", 100)} {
		checkTold(t, list("output x ; let y = 7 ; END "+behind), told)
	}
	// Behind its last token the list ends at 0; a TokEnd has a place of its own.
	for n := range len(l) {
		if n == 0 || n == 3 {
			continue
		}
		checkRefused(t, l[:n], api.ErrParse, 0)
		for _, at := range []int{0, 1, 77, -1, math.MinInt, math.MaxInt} {
			for _, text := range []string{"", ";", "x"} {
				end := api.Token{Kind: api.TokEnd, Text: text, Num: 1, At: at}
				checkRefused(t, append(slices.Clone(l[:n]), end), api.ErrParse, at)
				checkRefused(t, slices.Concat(l[:n], []api.Token{end}, l[n:]), api.ErrParse, at)
			}
		}
	}
}

// A text's end is where the text ends.
func TestEndOfTheText(t *testing.T) {
	for _, text := range []string{"output y", "let y = a", "let", "input 0 x [2]", "input 0 x [", "let y = (a", "let y = a >>", "let y = a +", "let y = max(a,"} {
		checkTextRefused(t, text, "parse", api.ErrParse, len(text))
		checkTextRefused(t, text+" # ; )\n ", "parse", api.ErrParse, len(text)+8)
	}
}

// Each statement cut off behind each of its tokens.
func TestCutOff(t *testing.T) {
	for _, text := range ordinary() {
		l := placed(tokensOf(text))
		for n := range len(l) {
			whole := n == 0 || mark(l[n-1]) == ";"
			if got := check(t, l[:n]); got != whole {
				t.Errorf("%s: taken is %v", tellTokens(l[:n]), got)
			}
			cut := append(slices.Clone(l[:n]), api.Token{Kind: api.TokEnd, At: 12345})
			check(t, append(cut, l[n:]...))
			if !whole {
				checkRefused(t, l[:n], api.ErrParse, 0)
				checkRefused(t, cut, api.ErrParse, 12345)
			}
		}
	}
}

// each: a token of each sort.
func each() []api.Token {
	l := list(strings.Join(slices.Concat(words(), signs()), " ") + " x 0 2 1048577 END")
	l = append(l, api.Token{Kind: api.TokSign, Text: "relu"}, api.Token{Kind: api.TokWord, Text: "-"}, api.Token{Kind: api.TokSign, Text: "let"}, api.Token{Kind: api.TokWord, Text: ";"}, api.Token{Kind: api.TokWord, Text: "("})
	return append(l, api.Token{Kind: 5, Text: ";"}, api.Token{Kind: -1, Text: "x", Num: 1}, api.Token{Kind: api.TokSign}, api.Token{Kind: api.TokName, Text: "let"})
}

// Each token of an ordinary text replaced by each other one, left out, laid twice, and with each one ahead of it.
func TestReplaced(t *testing.T) {
	for _, text := range ordinary() {
		l := tokensOf(text)
		for i := range l {
			for _, other := range each() {
				check(t, placed(slices.Concat(l[:i], []api.Token{other}, l[i+1:])))
				check(t, placed(slices.Concat(l[:i], []api.Token{other}, l[i:])))
			}
			check(t, placed(slices.Concat(l[:i], l[i+1:])))
			check(t, placed(slices.Concat(l[:i+1], l[i:])))
			if i > 0 {
				check(t, placed(slices.Concat(l[:i-1], []api.Token{l[i], l[i-1]}, l[i+1:])))
			}
		}
	}
}

// tokensOf: an ordinary text's tokens, by their texts.
func tokensOf(text string) []api.Token {
	lines := strings.Split(text, "\n")
	for i, line := range lines {
		lines[i], _, _ = strings.Cut(line, "#")
	}
	spread := strings.NewReplacer(">>", " >> ")
	text = spread.Replace(strings.Join(lines, " "))
	for _, sign := range strings.Split("+-*@<=()[],;", "") {
		text = strings.ReplaceAll(text, sign, " "+sign+" ")
	}
	return list(text + " END")
}

func TestMostStatements(t *testing.T) {
	for n := range mostStmts + 1 {
		for _, stmt := range []string{"output x ;", "let y = 7 ;", "input 0 x [ ] ;"} {
			for _, end := range []string{"", "END", "END output x ;"} {
				tree, err := parse.Parse(list(times(stmt, n) + end))
				if err != nil || len(tree.Stmts) != n {
					t.Errorf("%d times %q: %d statements, %v", n, stmt, len(tree.Stmts), err)
				}
			}
		}
	}
	for _, n := range []int{mostStmts + 1, mostStmts + 2, 1000} {
		checkRefused(t, list(times("output x ;", n)), api.ErrFull, 10*3*mostStmts+10)
		checkRefused(t, list(times("let y = 7 ;", n)+"END"), api.ErrFull, 10*5*mostStmts+10)
	}
	text := strings.Repeat("output x;", mostStmts)
	tree, err := parse.Text(text)
	if err != nil || len(tree.Stmts) != mostStmts || tree.Stmts[mostStmts-1].At != 9*(mostStmts-1) {
		t.Errorf("64 statements: %s, %v", tell(tree), err)
	}
	checkTextRefused(t, text+"output x;", "parse", api.ErrFull, 9*mostStmts)
	checkTextRefused(t, text+" # behind\n7", "parse", api.ErrFull, 9*mostStmts+10)
	checkTextRefused(t, text[:len(text)-1], "parse", api.ErrParse, len(text)-1)
}

// Behind 64 statements any token but an end is one too many, whether a statement could begin with it or not.
func TestBehindMostStatements(t *testing.T) {
	full := times("output x ;", mostStmts)
	for _, other := range append(each(), oddTokens()...) {
		l := placed(append(list(full), other))
		for _, more := range []string{"", "END", "let y = 1 ;", "= = ="} {
			l := placed(append(l, list(more)...))
			if other.Kind == api.TokEnd {
				checkTold(t, l, tell(read(list(full)).tree))
			} else {
				checkRefused(t, l, api.ErrFull, 10*3*mostStmts+10)
			}
		}
		// A statement fewer: it is as anywhere.
		check(t, l[3:])
	}
}

// opener: what is one deeper than what it stands in: what stands ahead of what is in it, what behind; and which of those ahead is the token that it begins with.
type opener struct {
	ahead, behind string
	at            int
}

func openers() []opener {
	return []opener{
		{"(", ")", 0}, {"-", "", 0}, {"relu (", ")", 0}, {"sum (", ")", 0}, {"argmax (", ")", 0},
		{"max (", ", a )", 0}, {"max ( a ,", ")", 0}, {"mux (", ", a , a )", 0}, {"mux ( a ,", ", a )", 0}, {"mux ( a , a ,", ")", 0},
		{"( a +", ")", 0}, {"( a < b * c @", ")", 0}, {"a - b @ relu (", ") * c >> 3", 4}, {"- a * max ( b , 7 ) - (", ") >> 1", 0},
	}
}

// wrapped: an expression in so many of these, the first one outermost.
func wrapped(by ...opener) string {
	text := "a"
	for _, o := range slices.Backward(by) {
		text = o.ahead + " " + text + " " + o.behind
	}
	return "let y = " + text + " ;"
}

func TestMostDeep(t *testing.T) {
	for _, o := range openers() {
		for n := range mostDeep + 1 {
			if !check(t, list(wrapped(slices.Repeat([]opener{o}, n)...))) {
				t.Errorf("%q, %d deep, is refused", o.ahead, n)
			}
		}
		for _, n := range []int{mostDeep + 1, mostDeep + 2, 100} {
			checkRefused(t, list(wrapped(slices.Repeat([]opener{o}, n)...)), api.ErrFull, 10*(3+mostDeep*len(strings.Fields(o.ahead))+o.at)+10)
		}
	}
}

func TestMostDeepMixed(t *testing.T) {
	s := noise(2)
	// Those that end ahead of what stands in the next one nest nothing: a + - a + - a.
	some := append(openers(), opener{ahead: "a + -"}, opener{ahead: "- a * - b @ -"}, opener{ahead: "a < (", behind: ")"})
	for range 200 {
		var by []opener
		for range mostDeep + 4 {
			by = append(by, one(&s, some))
		}
		for n := mostDeep - 1; n <= mostDeep+4; n++ {
			check(t, list(wrapped(by[:n]...)))
		}
	}
	// Written out: 30 signs, a parenthesis, a call, and one more of each kind.
	for inner, at := range map[string]int{"( b )": 0, "- b": 0, "sum ( b )": 0, "c + - b": 2, "c * mux ( a , b , c )": 2, "b < c - ( a )": 4} {
		checkRefused(t, list("let y = "+times("-", 30)+"( max ( a , "+inner+" ) ) ;"), api.ErrFull, 10*(3+30+5+at)+10)
		if l := list("let y = " + times("-", 29) + "( max ( a , " + inner + " ) ) ;"); !check(t, l) {
			t.Errorf("%s is refused", tellTokens(l))
		}
	}
}

// What ended is no longer deep: beside it there is as much room again.
func TestDeepBesideDeep(t *testing.T) {
	full := "( " + times("-", mostDeep-1) + "a )"
	for _, text := range []string{
		full + " + " + full, full + " * " + full, full + " < " + full, full + " - " + full + " - " + full, full + " >> 1 @ " + full,
		times("-", mostDeep) + "a + " + times("-", mostDeep) + "a", times("-", mostDeep) + "a * " + times("-", mostDeep) + "a", times("-", mostDeep) + "a >> 1 < " + times("-", mostDeep) + "a",
		"max ( " + times("-", mostDeep-1) + "a , " + times("(", mostDeep-1) + "a " + times(")", mostDeep-1) + ")",
		"mux ( " + times("relu (", mostDeep-1) + "a " + times(")", mostDeep-1) + ", - a , " + times("-", mostDeep-1) + "a )",
		times("a - b -", 100) + "c", times("( a ) +", 100) + "c", times("- a *", 100) + "c", times("sum ( a ) -", 100) + "( c )",
	} {
		for _, l := range [][]api.Token{list("let y = " + text + " ;"), list("let y = " + text + " ; let z = " + text + " ;")} {
			if !check(t, l) {
				t.Errorf("%s is refused", tellTokens(l))
			}
		}
	}
	checkRefused(t, list("let y = ( "+full+" ) ;"), api.ErrFull, 10*(3+2+mostDeep-2)+10)
	checkRefused(t, list("let y = max ( "+times("-", mostDeep-1)+"a , - "+times("-", mostDeep-1)+"a ) ;"), api.ErrFull, 10*(3+2+mostDeep-1+2+mostDeep-1)+10)
	check(t, list("let y = "+full+" + - "+full+" ;"))
	checkRefused(t, list("let y = "+full+" + - "+full+" ;"), api.ErrFull, 10*(3+mostDeep+2+1+1+mostDeep-1)+10)
}

// The token with which it would be too deep is told, whatever is behind it; what is wrong ahead of it is told first.
func TestWhichErrorFirst(t *testing.T) {
	deep := times("(", mostDeep)
	for _, opener := range []string{"(", "-", "relu", "sum", "argmax", "max", "mux"} {
		for _, behind := range []string{"", "END", ")", ";", "a", "= = =", "7 7", "let", ") ) ;", times("output x ;", 100)} {
			checkRefused(t, list("let y = "+deep+opener+" "+behind), api.ErrFull, 10*(3+mostDeep)+10)
		}
	}
	for _, wrong := range []string{")", ";", "=", ">>", "*", "+", "<", ",", "[", "let", "END", "input", "@"} {
		checkRefused(t, list("let y = "+deep+wrong+" ( ( ("), api.ErrParse, 10*(3+mostDeep)+10)
		checkRefused(t, list("let y = "+times("(", mostDeep-1)+wrong+" ( ( ("), api.ErrParse, 10*(3+mostDeep-1)+10)
	}
	checkRefused(t, list("let 7 = "+deep+"( ("), api.ErrParse, 20)
	checkRefused(t, list("let y = a b "+deep+"( ("), api.ErrParse, 50)
	checkRefused(t, list("let = let = output 7"), api.ErrParse, 20)
	checkRefused(t, list("input 1048577 7 ["), api.ErrParse, 20)
	checkRefused(t, list("output output x ; let"), api.ErrParse, 20)
	many := times("output x ;", mostStmts)
	checkRefused(t, list("output 7 ; "+many), api.ErrParse, 20)
	checkRefused(t, list(times("output x ;", mostStmts-1)+"output 7 ; output x ;"), api.ErrParse, 10*(3*(mostStmts-1)+1)+10)
	checkRefused(t, list(times("output x ;", mostStmts-1)+"output x output x ;"), api.ErrParse, 10*(3*(mostStmts-1)+2)+10)
	checkRefused(t, list(times("output x ;", mostStmts-1)+"let y = "+deep+"( ; ; ;"), api.ErrFull, 10*(3*(mostStmts-1)+3+mostDeep)+10)
	checkRefused(t, list(many+"let y = "+deep+"( ;"), api.ErrFull, 10*3*mostStmts+10)
	checkRefused(t, list(many+"; output 7"), api.ErrFull, 10*3*mostStmts+10)
}

// The scanner's errors are told as they are, ahead of all that the parser would say.
func TestTextErrors(t *testing.T) {
	checkTextRefused(t, "let x = A;", "lex", api.ErrLex, 8)
	checkTextRefused(t, "; ; ; A", "lex", api.ErrLex, 6)
	checkTextRefused(t, "let = 01", "lex", api.ErrLex, 6)
	checkTextRefused(t, "x > 1", "lex", api.ErrLex, 2)
	checkTextRefused(t, "output x;\x00", "lex", api.ErrLex, 9)
	checkTextRefused(t, strings.Repeat("output x;", mostStmts)+"output $", "lex", api.ErrLex, 9*mostStmts+7)
	checkTextRefused(t, "let y = "+strings.Repeat("(", 40)+"18446744073709551616", "lex", api.ErrLex, 48)
	checkTextRefused(t, strings.Repeat("+", 513), "lex", api.ErrFull, 512)
	checkTextRefused(t, "let y = a"+strings.Repeat("+a", 255)+";", "lex", api.ErrFull, 9+2*254)
	checkTextRefused(t, strings.Repeat(";", 513), "lex", api.ErrFull, 512)
	checkTextRefused(t, strings.Repeat(" ", 4097), "lex", api.ErrLong, 4097)
	checkTextRefused(t, strings.Repeat("A", 5000), "lex", api.ErrLong, 5000)
	checkTextRefused(t, "output x;"+strings.Repeat("#", 4096), "lex", api.ErrLong, 9+4096)
	checkText(t, "output x;"+strings.Repeat("#", 4096-9), "output.x |")
	checkTextRefused(t, strings.Repeat(";", 512), "parse", api.ErrParse, 0)
}

// marksOf: the places of a list's words and signs.
func marksOf(l []api.Token) []int {
	var places []int
	for i, token := range l {
		if mark(token) != "" {
			places = append(places, i)
		}
	}
	return places
}

// A word or sign is told by its Text, of Kind TokWord or TokSign; but a call's word is a TokWord.
func TestKindsOfMarks(t *testing.T) {
	for _, text := range ordinary() {
		l := placed(tokensOf(text))
		want := tell(read(l).tree)
		both := slices.Clone(l)
		for _, i := range marksOf(l) {
			other := slices.Clone(l)
			other[i].Kind = api.TokWord + api.TokSign - l[i].Kind
			if isCall(l[i]) {
				checkRefused(t, other, api.ErrParse, l[i].At)
			} else {
				checkTold(t, other, want)
				both[i] = other[i]
			}
			for _, kind := range []api.Kind{api.TokEnd, api.TokName, api.TokNumber, 5, -1, -3, 260, math.MaxInt, math.MinInt} {
				other[i].Kind = kind
				check(t, other)
				if kind != api.TokName && kind != api.TokNumber && i > 0 && (kind != api.TokEnd || mark(l[i-1]) != ";") {
					checkRefused(t, other, api.ErrParse, l[i].At)
				}
			}
			other[i] = l[i]
			other[i].Num = math.MaxUint64
			checkTold(t, other, want)
			for _, near := range []string{"", l[i].Text + " ", " " + l[i].Text, strings.ToUpper(l[i].Text) + "\x00", l[i].Text + l[i].Text, l[i].Text[1:], ">", "Let", "RELU"} {
				other[i] = api.Token{Kind: l[i].Kind, Text: near, At: l[i].At}
				if near != "" {
					check(t, other)
				}
				if !slices.Contains(append(signs(), words()...), near) {
					checkRefused(t, other, api.ErrParse, l[i].At)
				}
			}
		}
		checkTold(t, both, want)
	}
}

// oddTexts: texts that no name or number has.
func oddTexts() []string {
	return []string{"", " ", "let", "relu", ";", "(", "-", "1", "1a", "A", "\x00", "\xff", "x y", "é", strings.Repeat("x", 17), strings.Repeat("long", 5000)}
}

// oddTokens: those that no text has.
func oddTokens() []api.Token {
	var l []api.Token
	for _, text := range oddTexts() {
		for _, kind := range []api.Kind{api.TokName, api.TokNumber, api.TokSign, api.TokWord, 5, 6, -1, math.MaxInt, math.MinInt} {
			for _, num := range []uint64{0, 1 << 20, math.MaxUint64} {
				l = append(l, api.Token{Kind: kind, Text: text, Num: num})
			}
		}
	}
	return l
}

func TestOddTokens(t *testing.T) {
	for _, text := range []string{"input 0 x [ 2 , 3 ] ; let y = - a + 7 >> 1 ; output y ; END", "let y = relu ( max ( a , 7 ) ) ;"} {
		l := list(text)
		for i := range l {
			for _, odd := range oddTokens() {
				check(t, placed(slices.Concat(l[:i], []api.Token{odd}, l[i+1:])))
			}
		}
	}
	for _, odd := range oddTexts() {
		n, m := api.Token{Kind: api.TokName, Text: odd, Num: 5}, api.Token{Kind: api.TokNumber, Text: odd, Num: 6}
		l := placed(slices.Concat(list("let"), []api.Token{n}, list("="), []api.Token{n}, list("+"), []api.Token{m}, list(">>"), []api.Token{m}, list(";")))
		name := ""
		if odd != "" {
			name = "." + odd
		}
		checkTold(t, l, "let"+name+"=3@10 | name"+name+"@40 number:6@60 shift:6[1]@70 add[0,2]@50")
	}
}

// Places are told as they are, whatever they are.
func TestOddPlaces(t *testing.T) {
	s := noise(3)
	for _, text := range append(ordinary(), "let y = a b ;", "let y = a < b < c;", "output", "let y = "+strings.Repeat("-", 33)+"a;", strings.Repeat("output x;", 65)) {
		l := tokensOf(text)
		for _, at := range []func(i int) int{
			func(i int) int { return -i }, func(i int) int { return 1000 - i }, func(int) int { return 0 }, func(int) int { return -7 },
			func(i int) int { return math.MinInt + i }, func(i int) int { return math.MaxInt - i }, func(int) int { return int(s.word()) },
		} {
			for i := range l {
				l[i].At = at(i)
			}
			check(t, l)
		}
	}
	checkTold(t, []api.Token{{Kind: api.TokWord, Text: "let", At: -1}, {Kind: api.TokName, Text: "y", At: 9}, {Kind: api.TokSign, Text: "=", At: 3}, {Kind: api.TokSign, Text: "-", At: math.MinInt}, {Kind: api.TokName, Text: "x", At: 7}, {Kind: api.TokSign, Text: ";", At: -2}},
		"let.y=1@-1 | name.x@7 neg[0]@"+strconv.Itoa(math.MinInt))
}

// All lists of up to five tokens behind each beginning, of a token of each sort: what is refused isn't gone on with.
func TestShortLists(t *testing.T) {
	sorts := list("a 2 1048577 - + * < >> ( ) , ; = relu max let END")
	var walk func(l []api.Token, more int) int
	walk = func(l []api.Token, more int) int {
		n := 1
		check(t, placed(l))
		if more == 0 {
			return n
		}
		for _, token := range sorts {
			longer := append(slices.Clone(l), token)
			if c := newChart(); !slices.ContainsFunc(longer, func(token api.Token) bool { return !c.takes(token) }) {
				n += walk(longer, more-1)
			} else {
				check(t, placed(longer))
				n++
			}
		}
		return n
	}
	n := 0
	for _, ahead := range []string{"", "let y = a", "let y =", "let y = -", "let y = (", "let y = relu (", "let y = max ( a", "input 0 x [", "input 0 x [ 2", "output", "output x ;"} {
		n += walk(list(ahead), 4)
	}
	if n < 20000 {
		t.Errorf("%d lists", n)
	}
}

// Lists of all tokens, and those that a text might well have.
func TestNoise(t *testing.T) {
	s := noise(4)
	sorts := each()
	taken := 0
	for i := range 6000 {
		var l []api.Token
		for range s.below(12) {
			l = append(l, one(&s, sorts))
		}
		check(t, placed(l))
		l = list("let y = a")
		for range s.below(10) {
			l = append(l, list(one(&s, []string{"+ b", "- 2", "* c", "@ ( d )", "< e", ">> 3", "- - f", "* relu ( g )", "- mux ( a < b , - c , 1 )", "; let z = 1", "; output z ; let q = - a", "; input 1 p [ 2 , 2 ] ; let r = ( a + b )"}))...)
		}
		if l = append(l, tok(";")); i%8 == 0 {
			l[s.below(len(l))] = one(&s, sorts)
		}
		if check(t, placed(l)) {
			taken++
		}
	}
	if taken < 2000 {
		t.Errorf("%d lists were taken", taken)
	}
}

// Lists that are longer than any text's.
func TestLongLists(t *testing.T) {
	const n = 20000
	for _, part := range []string{"+ a", "- a", "* a", "@ 7", ">> 1"} {
		l := list("let y = a " + times(part, n) + ";")
		tree, err := parse.Parse(l)
		last, args := 2*n, []int{2*n - 2, 2*n - 1}
		if part == ">> 1" {
			last, args = n, []int{n - 1}
		}
		if err != nil || len(tree.Exprs) != last+1 || tree.Stmts[0].Expr != last || !slices.Equal(tree.Exprs[last].Args, args) {
			t.Errorf("%d times %q: %d expressions, %v", n, part, len(tree.Exprs), err)
		}
		checkRefused(t, l[:len(l)-1], api.ErrParse, 0)
	}
	tree, err := parse.Parse(list("input 0 x [ 2 " + times(", 3", n) + "] ;"))
	if err != nil || len(tree.Stmts) != 1 || len(tree.Stmts[0].Shape) != n+1 {
		t.Errorf("%d dimensions: %v", n+1, err)
	}
	checkRefused(t, list("let y = "+times("(", n)), api.ErrFull, 10*(3+mostDeep)+10)
	checkRefused(t, list("let y = "+times("-", n)), api.ErrFull, 10*(3+mostDeep)+10)
	checkRefused(t, list("let y = "+times("mux ( a ,", n)), api.ErrFull, 10*(3+4*mostDeep)+10)
	checkRefused(t, list(times("output x ;", n)), api.ErrFull, 10*3*mostStmts+10)
	checkRefused(t, list(times(";", n)), api.ErrParse, 10)
}
