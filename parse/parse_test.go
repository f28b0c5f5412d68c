package parse_test

import (
	"slices"
	"strings"
	"testing"

	"twain/api"
	"twain/parse"
)

func TestExamples(t *testing.T) {
	checkText(t, "let y = a + 2 * b >> 1;", "let.y=5 | name.a@8 number:2@12 name.b@16 shift:1[2]@18 mul[1,3]@14 add[0,4]@10")
	checkTextRefused(t, "output y", "parse", api.ErrParse, 8)
	checkText(t, "input 0 x [2,3];", "input.x[2,3] |")
	checkTextRefused(t, "let = 1;", "parse", api.ErrParse, 4)
}

// ordinary: texts with each kind of statement and of expression.
func ordinary() []string {
	return []string{
		"input 0 x [2,3]; input 1 s []; output x;",
		"let y = a + 2 * b >> 1;",
		"input 0 w [2]; input 1 x [2]; let y = relu(w @ x - 3); output y;",
		"let q = a - b - c < mux(a, -b, max(c, (d)));",
		"let m = x @ y - -(1 * 7);\nlet big_1 = mux(sum(m) < 18446744073709551615, max(m, 0), relu(m) + argmax(m) >> 2); # all\noutput big_1;",
		"let a = -x >> 3 >> 0; let b = (a < x) < (a < (b)); output a; output a;",
		"input 1048576 p [7, 0, 1, 1048576]; let q = -----p * -(p + p) @ -sum(-p); output q;",
	}
}

// Each field of each statement and expression, written out: what isn't named is zero.
func TestOrdinaryTexts(t *testing.T) {
	for i, want := range []string{
		"input.x[2,3] input:1.s@17 output.x@31 |",
		"let.y=5 | name.a@8 number:2@12 name.b@16 shift:1[2]@18 mul[1,3]@14 add[0,4]@10",
		"input.w[2] input:1.x[2]@15 let.y=5@30 output.y@55 | name.w@43 name.x@47 mat[0,1]@45 number:3@51 sub[2,3]@49 relu[4]@38",
		"let.q=12 | name.a@8 name.b@12 sub[0,1]@10 name.c@16 sub[2,3]@14 name.a@24 name.b@28 neg[6]@27 name.c@35 name.d@39 max[8,9]@31 mux[5,7,10]@20 less[4,11]@18",
		"let.m=7 let.big_1=21@26 output.big_1@117 | name.x@8 name.y@12 mat[0,1]@10 number:1@18 number:7@22 mul[3,4]@20 neg[5]@16 sub[2,6]@14" +
			" name.m@46 sum[8]@42 number:18446744073709551615@51 less[9,10]@49 name.m@77 number@80 max[12,13]@73 name.m@89 relu[15]@84 name.m@101 argmax[17]@94 shift:2[18]@104 add[16,19]@92 mux[11,14,20]@38",
		"let.a=3 let.b=10@22 output.a@51 output.a@61 | name.x@9 shift:3[0]@11 shift[1]@16 neg[2]@8 name.a@31 name.x@35 less[4,5]@33 name.a@41 name.b@46 less[7,8]@43 less[6,9]@38",
		"input:1048576.p[7,0,1,1048576] let.q=15@36 output.q@74 | name.p@49 neg[0]@48 neg[1]@47 neg[2]@46 neg[3]@45 neg[4]@44 name.p@55 name.p@59 add[6,7]@57 neg[8]@53 mul[5,9]@51 name.p@70 neg[11]@69 sum[12]@65 neg[13]@64 mat[10,14]@62",
	} {
		checkText(t, ordinary()[i], want)
	}
}

// checkForm: is the expression that of the one with all parentheses?
func checkForm(t *testing.T, text, form string) {
	t.Helper()
	tree, err := parse.Text("let y = " + text + ";")
	if err != nil || len(tree.Stmts) != 1 || tree.Stmts[0].Expr != len(tree.Exprs)-1 {
		t.Errorf("%q: %s, %v", text, tell(tree), err)
		return
	}
	got := strings.ReplaceAll(textOf(printExpr(tree, tree.Stmts[0].Expr, false)), " ", "")
	if got != strings.ReplaceAll(form, " ", "") {
		t.Errorf("%q is %s, want %s", text, got, form)
	}
}

func TestJoinedFromTheLeft(t *testing.T) {
	for _, signs := range []string{"+-", "*@"} {
		for _, x := range strings.Split(signs, "") {
			for _, y := range strings.Split(signs, "") {
				checkForm(t, "a"+x+"b"+y+"c", "((a"+x+"b)"+y+"c)")
				checkForm(t, "a"+x+"(b"+y+"c)", "(a"+x+"(b"+y+"c))")
				checkForm(t, "a"+x+"b"+y+"c"+x+"d", "(((a"+x+"b)"+y+"c)"+x+"d)")
			}
		}
	}
	checkForm(t, "a - b - c - d - e - f", "(((((a-b)-c)-d)-e)-f)")
	checkForm(t, "a @ b * c @ d * e", "((((a@b)*c)@d)*e)")
	checkForm(t, "a >> 1 >> 2 >> 3", "(((a>>1)>>2)>>3)")
}

func TestWhatBindsCloser(t *testing.T) {
	for _, sum := range []string{"+", "-"} {
		for _, prod := range []string{"*", "@"} {
			checkForm(t, "a"+sum+"b"+prod+"c", "(a"+sum+"(b"+prod+"c))")
			checkForm(t, "a"+prod+"b"+sum+"c", "((a"+prod+"b)"+sum+"c)")
			checkForm(t, "(a"+sum+"b)"+prod+"c", "((a"+sum+"b)"+prod+"c)")
			checkForm(t, "a"+prod+"b"+sum+"c"+prod+"d", "((a"+prod+"b)"+sum+"(c"+prod+"d))")
			checkForm(t, "-a"+prod+"b", "((-a)"+prod+"b)")
			checkForm(t, "a"+prod+"-b"+prod+"c", "((a"+prod+"(-b))"+prod+"c)")
			checkForm(t, "a"+prod+"b>>1", "(a"+prod+"(b>>1))")
			checkForm(t, "a>>1"+prod+"b", "((a>>1)"+prod+"b)")
			checkForm(t, "a"+prod+"b<c"+sum+"d", "((a"+prod+"b)<(c"+sum+"d))")
		}
		checkForm(t, "-a"+sum+"b", "((-a)"+sum+"b)")
		checkForm(t, "a"+sum+"-b", "(a"+sum+"(-b))")
		checkForm(t, "a"+sum+"b>>1", "(a"+sum+"(b>>1))")
		checkForm(t, "a"+sum+"b<c", "((a"+sum+"b)<c)")
		checkForm(t, "a<b"+sum+"c", "(a<(b"+sum+"c))")
	}
	checkForm(t, "-a<-b", "((-a)<(-b))")
	checkForm(t, "a<b>>1", "(a<(b>>1))")
	checkForm(t, "- - a - - - b", "((-(-a))-(-(-b)))")
}

func TestShifts(t *testing.T) {
	checkForm(t, "-a >> 1", "(-(a>>1))")
	checkForm(t, "(-a) >> 1", "((-a)>>1)")
	checkForm(t, "--a >> 1 >> 2", "(-(-((a>>1)>>2)))")
	checkForm(t, "1 >> 2", "(1>>2)")
	checkForm(t, "relu(a) >> 1", "((relu(a))>>1)")
	checkForm(t, "relu(a >> 1)", "(relu((a>>1)))")
	checkForm(t, "(a + b) >> 0", "((a+b)>>0)")
	checkForm(t, "a >> 1 - 2", "((a>>1)-2)")
	for _, behind := range []string{"b", "-1", "(1)", "relu(1)", ">> 1", ";"} {
		checkTextRefused(t, "let y = a >> "+behind+";", "parse", api.ErrParse, 13)
	}
	checkTextRefused(t, "let y = >> 1;", "parse", api.ErrParse, 8)
}

func TestComparisons(t *testing.T) {
	checkForm(t, "a < b", "(a<b)")
	checkForm(t, "(a < b) < c", "((a<b)<c)")
	checkForm(t, "a < (b < c)", "(a<(b<c))")
	checkForm(t, "(a < b) < (c < d)", "((a<b)<(c<d))")
	checkForm(t, "(a < b) + (c < d)", "((a<b)+(c<d))")
	checkForm(t, "max(a < b, c < d) < mux(a < b, c < d, e < f)", "((max((a<b),(c<d)))<(mux((a<b),(c<d),(e<f))))")
	checkTextRefused(t, "let y = a < b < c;", "parse", api.ErrParse, 14)
	checkTextRefused(t, "let y = (a < b < c);", "parse", api.ErrParse, 15)
	checkTextRefused(t, "let y = (a < b) < c < d;", "parse", api.ErrParse, 20)
	checkTextRefused(t, "let y = max(a < b < c, d);", "parse", api.ErrParse, 18)
	checkTextRefused(t, "let y = max(a, b < c < d);", "parse", api.ErrParse, 21)
	checkTextRefused(t, "let y = a + b < c + d < e;", "parse", api.ErrParse, 22)
	checkTextRefused(t, "let y = a < < b;", "parse", api.ErrParse, 12)
}

// Parentheses make no expression of their own, and have no place in one.
func TestParentheses(t *testing.T) {
	checkText(t, "let y = (a);", "let.y | name.a@9")
	checkText(t, "let y = ((((7))));", "let.y | number:7@12")
	checkText(t, "let y = ((a) + (b));", "let.y=2 | name.a@10 name.b@16 add[0,1]@13")
	checkText(t, "let y = (-(a));", "let.y=1 | name.a@11 neg[0]@9")
	checkText(t, "let y = (a) >> 2;", "let.y=1 | name.a@9 shift:2[0]@12")
	for _, inner := range []string{")", ", )", "- )", ";", "=", "let", "[", "< a )", "* a )", "a , b )", "a ; )", "a b )", "END )"} {
		check(t, list("let y = ( "+inner+" ;"))
	}
	checkTextRefused(t, "let y = ();", "parse", api.ErrParse, 9)
	checkTextRefused(t, "let y = (a;", "parse", api.ErrParse, 10)
	checkTextRefused(t, "let y = (a, b);", "parse", api.ErrParse, 10)
	checkTextRefused(t, "let y = a);", "parse", api.ErrParse, 9)
	checkTextRefused(t, "let y = a(b);", "parse", api.ErrParse, 9)
	checkTextRefused(t, "let y = 2(b);", "parse", api.ErrParse, 9)
	checkTextRefused(t, "let y = (a)(b);", "parse", api.ErrParse, 11)
	checkTextRefused(t, "let y = (a b);", "parse", api.ErrParse, 11)
}

func TestCalls(t *testing.T) {
	for _, word := range callWords() {
		most := map[string]int{"max": 2, "mux": 3}[word]
		if most == 0 {
			most = 1
		}
		for n := range 6 {
			l := list("let y = " + word + " ( " + strings.TrimSuffix(times("a ,", n), ", ") + " ) ;")
			switch {
			case n == most:
				tree, err := parse.Parse(l)
				if err != nil || len(tree.Exprs) != n+1 || tree.Exprs[n].At != 40 || len(tree.Exprs[n].Args) != n || tree.Exprs[n].Kind != kinds()[word] {
					t.Errorf("%s of %d: %s, %v", word, n, tell(tree), err)
				}
			case n == 0:
				checkRefused(t, l, api.ErrParse, 60)
			case n < most: // a ) where a , is wanted
				checkRefused(t, l, api.ErrParse, 60+20*n-10)
			default: // a , where a ) is wanted
				checkRefused(t, l, api.ErrParse, 60+20*most-10)
			}
		}
		checkRefused(t, list("let y = "+word+" a ;"), api.ErrParse, 50)
		checkRefused(t, list("let y = "+word+" ;"), api.ErrParse, 50)
		checkRefused(t, list("let y = "+word+" [ a ] ;"), api.ErrParse, 50)
		checkRefused(t, list("let y = "+word+" ( , a ) ;"), api.ErrParse, 60)
		checkRefused(t, list("let y = "+word+" ( a ; ) ;"), api.ErrParse, 70)
		checkRefused(t, list("let y = "+word+" >> 1 ;"), api.ErrParse, 50)
	}
	checkText(t, "let y = mux(a, 1, -b);", "let.y=4 | name.a@12 number:1@15 name.b@19 neg[2]@18 mux[0,1,3]@8")
	checkText(t, "let y = max(max(a,b),max(c,d));", "let.y=6 | name.a@16 name.b@18 max[0,1]@12 name.c@25 name.d@27 max[3,4]@21 max[2,5]@8")
}

func TestStatements(t *testing.T) {
	checkText(t, "input 1 x [4];", "input:1.x[4] |")
	checkText(t, " input 7 x [];", "input:7.x@1 |")
	checkText(t, "output x;output x;", "output.x output.x@9 |")
	checkText(t, "let a=1;let b=a+a;let c=b;", "let.a let.b=3@8 let.c=4@18 | number:1@6 name.a@14 name.a@16 add[1,2]@15 name.b@24")
	for text, at := range map[string]int{
		";": 0, "x": 0, "7": 0, "=": 0, "sum": 0, "relu(a);": 0, "a = 1;": 0, "(": 0, "]": 0, "-": 0,
		"input x [];": 6, "input -1 x [];": 6, "input 0 [];": 8, "input 0 7 [];": 8, "input 0 x;": 9, "input 0 x 2;": 10, "input 0, x [];": 7, "input 0 x [] = 1;": 13, "input 0 x [] output x;": 13, "input 0 x (2);": 10,
		"let 1 = a;": 4, "let y a;": 6, "let y;": 5, "let y [];": 6, "let y = ;": 8, "let y = 1 2;": 10, "let y = a b;": 10, "let y == 1;": 7, "let y = = 1;": 8, "let y = a output y;": 10, "let y = a = b;": 10, "let y = a, b;": 9, "let y = [1];": 8, "let y = a +;": 11, "let y = + a;": 8, "let y = a * * b;": 12, "let y = -;": 9, "let y = let;": 8,
		"output;": 6, "output 7;": 7, "output x, y;": 8, "output x y;": 9, "output (x);": 7, "output -x;": 7, "output x = 1;": 9, "output output;": 7, "output x;;": 9, "output x; x": 10,
	} {
		checkTextRefused(t, text, "parse", api.ErrParse, at)
	}
}

func TestShapes(t *testing.T) {
	checkText(t, "input 0 x [];", "input.x |")
	checkText(t, "input 0 x [ ] ; input 0 y [0];", "input.x input.y[0]@16 |")
	for n := 1; n <= 200; n++ {
		dims := make([]int, n)
		for i := range dims {
			dims[i] = i * i % 977
		}
		l := list("input 0 x " + strings.NewReplacer("[", "[ ", "]", " ]", ",", " , ").Replace(tellInts(dims)) + " ;")
		tree, err := parse.Parse(l)
		if err != nil || len(tree.Stmts) != 1 || !slices.Equal(tree.Stmts[0].Shape, dims) {
			t.Errorf("%d dimensions: %s, %v", n, tell(tree), err)
		}
	}
	for shape, at := range map[string]int{
		"[,]": 11, "[,1]": 11, "[1,]": 13, "[1,,2]": 13, "[1 2]": 13, "[x]": 11, "[1,x]": 13, "[-1]": 11, "[(1)]": 11, "[1": 12, "[": 11, "[1,": 13, "]": 10, "[1;2]": 12, "[1]]": 13, "[[]]": 11, "[1+1]": 12, "[sum]": 11, "[[1]]": 11, "[1](2)": 13, "[1)": 12, "[1][2]": 13,
	} {
		checkTextRefused(t, "input 0 x "+shape+";", "parse", api.ErrParse, at)
	}
}

// At 2^20 and above: of a PARTY, of each dimension, of a shift. A number by itself may be any.
func TestGreatNumbers(t *testing.T) {
	places := map[string]int{
		"input N x [ 2 ] ;": 20, "input 0 x [ N ] ;": 50, "input 0 x [ 2 , N , 3 ] ;": 70, "input 0 x [ 2 , 3 , N ] ;": 90, "let y = a >> N ;": 60, "let y = a >> 3 >> N ;": 80, "let y = ( - 1 >> N ) ;": 80,
	}
	for _, n := range []string{"0", "1", "2", "1048575", "1048576"} {
		for text := range places {
			if !check(t, list(strings.ReplaceAll(text, "N", n))) {
				t.Errorf("%q is refused with %s", text, n)
			}
		}
	}
	for _, n := range []string{"1048577", "2097152", "4294967295", "4294967296", "4295032832", "9223372036854775807", "9223372036854775808", "9223372036855824384", "18446744073709551614", "18446744073709551615"} {
		for text, at := range places {
			checkRefused(t, list(strings.ReplaceAll(text, "N", n)), api.ErrParse, at)
		}
		checkTold(t, list("let y = "+n+" ;"), "let.y@10 | number:"+n+"@40")
	}
	checkTold(t, list("input 1048576 x [ 1048576 , 1048575 ] ; let y = a >> 1048576 ;"), "input:1048576.x[1048576,1048575]@10 let.y=1@100 | name.a@130 shift:1048576[0]@140")
	checkText(t, "let y = 0;", "let.y | number@8")
}

// What a name may be, no word is; what a word is, no name may be.
func TestWordsAndNames(t *testing.T) {
	for _, word := range words() {
		for text, at := range map[string]int{"input 0 W [ ] ;": 30, "let W = 1 ;": 20, "output W ;": 20, "let y = a >> W ;": 60, "input W x [ ] ;": 20, "input 0 x [ W ] ;": 50} {
			checkRefused(t, list(strings.ReplaceAll(text, "W", word)), api.ErrParse, at)
		}
		for i, text := range []string{"input 0 N [ ] ;", "let N = N + N ;", "output N ;", "let y = - N >> 1 ;", "let y = relu ( N ) ;"} {
			l := list(text)
			for i := range l {
				if l[i].Text == "N" {
					l[i].Text = word
				}
			}
			checkTold(t, l, []string{
				"input." + word + "@10 |", "let." + word + "=2@10 | name." + word + "@40 name." + word + "@60 add[0,1]@50", "output." + word + "@10 |",
				"let.y=2@10 | name." + word + "@50 shift:1[0]@60 neg[1]@40", "let.y=1@10 | name." + word + "@60 relu[0]@40",
			}[i])
		}
		named := func(l []api.Token, i int) []api.Token {
			l[i] = api.Token{Kind: api.TokName, Text: word, At: l[i].At}
			return l
		}
		for _, text := range []string{"input 0 x [ ] ;", "let y = 1 ;", "output x ;"} {
			checkRefused(t, named(list(text), 0), api.ErrParse, 10)
		}
		// A name by a call's word is a name; the parenthesis behind it can't stand there.
		checkRefused(t, named(list("let y = relu ( a ) ;"), 3), api.ErrParse, 50)
	}
}

// The words that begin no call.
func TestWordsInExpressions(t *testing.T) {
	for _, word := range []string{"input", "let", "output"} {
		checkRefused(t, list("let y = "+word+" ( a ) ;"), api.ErrParse, 40)
		checkRefused(t, list("let y = a + "+word+" ;"), api.ErrParse, 60)
		checkRefused(t, list("let y = a "+word+" ;"), api.ErrParse, 50)
	}
	for _, word := range callWords() {
		checkRefused(t, list("let y = a "+word+" ( a ) ;"), api.ErrParse, 50)
		checkRefused(t, list(word+" ( a ) ;"), api.ErrParse, 10)
	}
}
