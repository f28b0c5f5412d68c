package micro_test

import (
	"math"
	"math/big"
	"slices"
	"strings"

	"twain/api"
	"twain/circ"
	"twain/corr"
	"twain/garble"
	"twain/tape"
)

// The chapter's words once more, line by line, apart from the program.

const (
	// most is the greatest number of operations.
	most = 16384
	// mostElems is the greatest number of a party's elements.
	mostElems = 65536
)

// row: a line of the chapter's table. A form is '+' (arithmetic), '^' (boolean), '*' (either), or ' ' (none that is wanted, or may be).
type row struct {
	kind        api.OpKind
	a, b, makes byte
	round       int
	wants       string // P: Party; C: C; e: K is an element; k: K is from 0 to 63; o: K is an out's number
	circuit     int    // of an OpGarb: its K
	forms       uint64 // of an OpGarb: its C
}

func rows() []row {
	return append(plainRows(), garbRows()...)
}

// plainRows: those of the kinds but OpGarb.
func plainRows() []row {
	return []row{
		{kind: api.OpIn, a: ' ', b: ' ', makes: '+', round: 1, wants: "Pe"},
		{kind: api.OpConst, a: ' ', b: ' ', makes: '*', wants: "C"},
		{kind: api.OpAdd, a: '+', b: '+', makes: '+'},
		{kind: api.OpSub, a: '+', b: '+', makes: '+'},
		{kind: api.OpMulC, a: '+', b: ' ', makes: '+', wants: "C"},
		{kind: api.OpMul, a: '+', b: '+', makes: '+', round: 1},
		{kind: api.OpXor, a: '^', b: '^', makes: '^'},
		{kind: api.OpXorC, a: '^', b: ' ', makes: '^', wants: "C"},
		{kind: api.OpAndC, a: '^', b: ' ', makes: '^', wants: "C"},
		{kind: api.OpAnd, a: '^', b: '^', makes: '^', round: 1},
		{kind: api.OpShl, a: '^', b: ' ', makes: '^', wants: "k"},
		{kind: api.OpShr, a: '^', b: ' ', makes: '^', wants: "k"},
		{kind: api.OpSar, a: '^', b: ' ', makes: '^', wants: "k"},
		{kind: api.OpSpread, a: '^', b: ' ', makes: '^'},
		{kind: api.OpMine, a: '+', b: ' ', makes: '^', wants: "P"},
		{kind: api.OpBit, a: '^', b: ' ', makes: '+', wants: "Pk"},
		{kind: api.OpOut, a: '+', b: ' ', makes: ' ', round: 1, wants: "o"},
		{kind: api.OpOutB, a: '^', b: ' ', makes: ' ', round: 1, wants: "o"},
	}
}

// garbRows: those of OpGarb, with all circuits and forms.
func garbRows() []row {
	return []row{
		{kind: api.OpGarb, a: '+', b: ' ', makes: '^', round: 2, circuit: 1, forms: 0},
		{kind: api.OpGarb, a: '^', b: ' ', makes: '^', round: 2, circuit: 1, forms: 1},
		{kind: api.OpGarb, a: '+', b: '+', makes: '^', round: 2, circuit: 2, forms: 0},
		{kind: api.OpGarb, a: '^', b: '+', makes: '^', round: 2, circuit: 2, forms: 1},
		{kind: api.OpGarb, a: '+', b: '^', makes: '^', round: 2, circuit: 2, forms: 2},
		{kind: api.OpGarb, a: '^', b: '^', makes: '^', round: 2, circuit: 2, forms: 3},
		{kind: api.OpGarb, a: '+', b: '+', makes: '^', round: 2, circuit: 3, forms: 0},
		{kind: api.OpGarb, a: '^', b: '+', makes: '^', round: 2, circuit: 3, forms: 1},
		{kind: api.OpGarb, a: '+', b: '^', makes: '^', round: 2, circuit: 3, forms: 2},
		{kind: api.OpGarb, a: '^', b: '^', makes: '^', round: 2, circuit: 3, forms: 3},
	}
}

// all: the lines, made once.
var all = rows()

// rowOf: the line of an operation.
func rowOf(op api.Op) (row, bool) {
	for i := range all {
		if r := &all[i]; r.kind == op.Kind && (op.Kind != api.OpGarb || r.circuit == op.K && r.forms == op.C) {
			return *r, true
		}
	}
	return row{}, false
}

func (r row) has(letter string) bool { return strings.Contains(r.wants, letter) }

// ands: how many And gates the circuit has, as chapter 9 has it: 63 to add an operand's shares, 64 to compare, 63 to cut off, 64 to choose.
func (r row) ands() int {
	n := map[int]int{1: 63, 2: 64, 3: 128}[r.circuit]
	for _, form := range []byte{r.a, r.b} {
		if form == '+' {
			n += 63
		}
	}
	return n
}

// places: those of the words that it wants.
func (r row) places(op api.Op) []int {
	var l []int
	if r.a != ' ' {
		l = append(l, op.A)
	}
	if r.b != ' ' {
		l = append(l, op.B)
	}
	return l
}

// takes: does the line take the operation, behind others that made these forms?
func (r row) takes(op api.Op, elems [2]int, made []byte) bool {
	for _, x := range []struct {
		form  byte
		place int
	}{{r.a, op.A}, {r.b, op.B}} {
		switch {
		case x.form == ' ' && x.place != 0:
			return false
		case x.form != ' ' && (x.place < 0 || x.place >= len(made)):
			return false
		case x.form != ' ' && made[x.place] != x.form && made[x.place] != '*':
			return false
		}
	}
	if op.Party != 0 && !(r.has("P") && op.Party == 1) {
		return false
	}
	if op.C != 0 && !r.has("C") && op.Kind != api.OpGarb {
		return false
	}
	switch {
	case r.has("e"):
		return op.K >= 0 && op.K <= elems[op.Party]-1
	case r.has("k"):
		return op.K >= 0 && op.K <= 63
	case r.has("o"), op.Kind == api.OpGarb:
		return true
	}
	return op.K == 0
}

// isProgram: for inputs of so many elements.
func isProgram(ops []api.Op, elems [2]int) bool {
	for _, n := range elems {
		if n < 0 || n > mostElems {
			return false
		}
	}
	if len(ops) > most {
		return false
	}
	var made []byte
	var numbers []int
	for _, op := range ops {
		r, ok := rowOf(op)
		if !ok || !r.takes(op, elems, made) {
			return false
		}
		made = append(made, r.makes)
		if r.has("o") {
			numbers = append(numbers, op.K)
		}
	}
	slices.Sort(numbers)
	for i, n := range numbers {
		if i != n {
			return false
		}
	}
	return true
}

// roundsOf: of a program: the longest way to each operation.
func roundsOf(ops []api.Op) []int {
	known := make(map[int]int)
	var way func(i int) int
	way = func(i int) int {
		if n, ok := known[i]; ok {
			return n
		}
		r, _ := rowOf(ops[i])
		longest := 0
		for _, place := range r.places(ops[i]) {
			longest = max(longest, way(place))
		}
		known[i] = longest + r.round
		return known[i]
	}
	l := []int{}
	for i := range ops {
		l = append(l, way(i))
	}
	return l
}

// needOf: of a program.
func needOf(ops []api.Op) api.Need {
	var n api.Need
	garbs := false
	for _, round := range roundsOf(ops) {
		n.Rounds = max(n.Rounds, round)
	}
	for _, op := range ops {
		r, _ := rowOf(op)
		operands := len(r.places(op))
		switch op.Kind {
		case api.OpIn:
			n.Tape[op.Party]++
			n.Words[op.Party]++
		case api.OpMul, api.OpAnd:
			n.Words[0] += 2
			n.Words[1] += 2
			if op.Kind == api.OpMul {
				n.Triples++
			} else {
				n.Bits++
			}
		case api.OpGarb:
			garbs = true
			n.OTs += 64 * operands
			n.Tape[0] += 2 * 128 * operands
			n.Words[0] += 2 * (64*operands + 128*operands + 2*r.ands())
			n.Words[1] += operands
		case api.OpOut, api.OpOutB:
			n.Words[0]++
			n.Words[1]++
		}
	}
	if garbs {
		n.Tape[0] += 2
	}
	return n
}

// stuff: what a party may draw of: its tape's words, and its stock.
type stuff struct {
	words         []uint64
	triples, bits []api.Triple
	ots           []api.OT
}

func (s *stuff) tape() *tape.Tape { return tape.Load(s.words) }

func (s *stuff) stock() *corr.Stock { return corr.Load(s.triples, s.bits, s.ots) }

func (s *stuff) clone() *stuff {
	return &stuff{slices.Clone(s.words), slices.Clone(s.triples), slices.Clone(s.bits), slices.Clone(s.ots)}
}

// next: the first ones of a list, which are used up; a list that is too short throws the error.
func next[T any](l *[]T, n int, lack api.Errno) []T {
	if len(*l) < n {
		panic(lack)
	}
	first := (*l)[:n]
	*l = (*l)[n:]
	return first
}

func (s *stuff) label() api.Label { return api.Label(next(&s.words, 2, api.ErrTape)) }

// got: what a party drew: delta, and by the place of the operation.
type got struct {
	delta   api.Label
	word    map[int]uint64
	triples map[int]api.Triple
	ots     map[int][]api.OT
	zeros   map[int][]api.Label
}

// draws: what a party draws ahead of a run.
func draws(ops []api.Op, party int, s *stuff) got {
	g := got{word: map[int]uint64{}, triples: map[int]api.Triple{}, ots: map[int][]api.OT{}, zeros: map[int][]api.Label{}}
	if party == 0 && slices.ContainsFunc(ops, func(op api.Op) bool { return op.Kind == api.OpGarb }) {
		g.delta = s.label()
		g.delta[0] |= 1
	}
	for i, op := range ops {
		r, _ := rowOf(op)
		switch {
		case op.Kind == api.OpIn && op.Party == party:
			g.word[i] = next(&s.words, 1, api.ErrTape)[0]
		case op.Kind == api.OpMul:
			g.triples[i] = next(&s.triples, 1, api.ErrStock)[0]
		case op.Kind == api.OpAnd:
			g.triples[i] = next(&s.bits, 1, api.ErrStock)[0]
		case op.Kind == api.OpGarb:
			for range 64 * len(r.places(op)) {
				g.ots[i] = append(g.ots[i], next(&s.ots, 1, api.ErrStock)[0])
			}
			for range 128 * len(r.places(op)) {
				if party == 0 {
					g.zeros[i] = append(g.zeros[i], s.label())
				}
			}
		}
	}
	return g
}

// Words as great numbers, and as rows of bits.

func number(x uint64) *big.Int { return new(big.Int).SetUint64(x) }

// word: modulo 2^64.
func word(n *big.Int) uint64 {
	return new(big.Int).Mod(n, new(big.Int).Lsh(big.NewInt(1), 64)).Uint64()
}

// signed: 2^63 and more stand for a number below 0.
func signed(x uint64) *big.Int {
	n := number(x)
	if n.Bit(63) == 1 {
		n.Sub(n, new(big.Int).Lsh(big.NewInt(1), 64))
	}
	return n
}

func plus(l ...uint64) uint64 {
	sum := new(big.Int)
	for _, x := range l {
		sum.Add(sum, number(x))
	}
	return word(sum)
}

func less(x, y uint64) uint64 { return word(new(big.Int).Sub(number(x), number(y))) }

func times(x, y uint64) uint64 { return word(new(big.Int).Mul(number(x), number(y))) }

// bit: the bit k of x, 0 if there is no such bit.
func bit(x uint64, k int) int {
	if k < 0 || k > 63 {
		return 0
	}
	return int(number(x).Bit(k))
}

// made: the word of these bits.
func made(of func(k int) int) uint64 {
	n := new(big.Int)
	for k := range 64 {
		n.SetBit(n, k, uint(of(k)))
	}
	return n.Uint64()
}

func xor(x, y uint64) uint64 { return made(func(k int) int { return (bit(x, k) + bit(y, k)) % 2 }) }
func and(x, y uint64) uint64 { return made(func(k int) int { return bit(x, k) * bit(y, k) }) }

// alone: what a boolean kind of one word makes of it, be it a share or all of it.
func alone(op api.Op, x uint64) uint64 {
	return made(func(k int) int {
		switch op.Kind {
		case api.OpAndC:
			return bit(x, k) * bit(op.C, k)
		case api.OpShl:
			return bit(x, k-op.K)
		case api.OpShr:
			return bit(x, k+op.K)
		case api.OpSar:
			return bit(x, min(k+op.K, 63))
		case api.OpSpread:
			return bit(x, 0)
		}
		panic("of no such kind")
	})
}

func xorLabel(a, b api.Label) api.Label { return api.Label{xor(a[0], b[0]), xor(a[1], b[1])} }

// garbledShares: of an OpGarb with these operands' shares.
func garbledShares(place int, op api.Op, operands [][2]uint64, sender, receiver got) [2]uint64 {
	c, err := circ.Make(op.K, op.C)
	if err != nil {
		panic(err)
	}
	delta, zeros := sender.delta, sender.zeros[place]
	first := times(uint64(place), 1<<32)
	tables, outs, err := garble.Garble(c, delta, zeros, first)
	if err != nil {
		panic(err)
	}
	labels := slices.Clone(zeros)
	for i, shares := range operands {
		for k := range 64 {
			if mine := 128*i + k; bit(shares[0], k) == 1 {
				labels[mine] = xorLabel(zeros[mine], delta)
			}
			his := 128*i + 64 + k
			s, r := sender.ots[place][64*i+k], receiver.ots[place][64*i+k]
			v, q := bit(shares[1], k), bit(shares[1], k)
			if r.Choice {
				q = 1 - q
			}
			reply := [2]api.Label{xorLabel(zeros[his], s.R[q]), xorLabel(xorLabel(zeros[his], delta), s.R[1-q])}
			labels[his] = xorLabel(reply[v], r.R[0])
		}
	}
	evaluated, err := garble.Eval(c, labels, tables, first)
	if err != nil {
		panic(err)
	}
	colour := func(l []api.Label) uint64 { return made(func(k int) int { return bit(l[k][0], 0) }) }
	return [2]uint64{colour(outs), colour(evaluated)}
}

// sharesOf: both parties' shares of what a program makes; or the error, if something lacks. What is drawn is used up.
func sharesOf(ops []api.Op, in [2][]uint64, have [2]*stuff) (shares [2][]uint64, lack api.Errno) {
	defer func() {
		if e, ok := recover().(api.Errno); ok {
			shares, lack = [2][]uint64{}, e
		}
	}()
	var gots [2]got
	for party := range gots {
		gots[party] = draws(ops, party, have[party])
	}
	for i, op := range ops {
		var l [][2]uint64
		r, _ := rowOf(op)
		for _, place := range r.places(op) {
			l = append(l, [2]uint64{shares[0][place], shares[1][place]})
		}
		w := oneShared(i, op, l, in, gots)
		for party := range w {
			shares[party] = append(shares[party], w[party])
		}
	}
	return shares, api.OK
}

// oneShared: both parties' shares of what one operation makes of these.
func oneShared(i int, op api.Op, of [][2]uint64, in [2][]uint64, gots [2]got) (w [2]uint64) {
	s, t := gots[0].triples[i], gots[1].triples[i]
	switch op.Kind {
	case api.OpIn:
		w[op.Party] = gots[op.Party].word[i]
		w[1-op.Party] = less(in[op.Party][op.K], w[op.Party])
	case api.OpConst:
		w[0] = op.C
	case api.OpMul:
		d := plus(less(of[0][0], s.A), less(of[0][1], t.A))
		e := plus(less(of[1][0], s.B), less(of[1][1], t.B))
		w[0] = plus(s.C, times(d, s.B), times(e, s.A), times(d, e))
		w[1] = plus(t.C, times(d, t.B), times(e, t.A))
	case api.OpAnd:
		d := xor(xor(of[0][0], s.A), xor(of[0][1], t.A))
		e := xor(xor(of[1][0], s.B), xor(of[1][1], t.B))
		w[0] = xor(xor(s.C, and(d, s.B)), xor(and(e, s.A), and(d, e)))
		w[1] = xor(t.C, xor(and(d, t.B), and(e, t.A)))
	case api.OpXorC:
		w = [2]uint64{xor(of[0][0], op.C), of[0][1]}
	case api.OpMine:
		w[op.Party] = of[0][op.Party]
	case api.OpBit:
		w[op.Party] = uint64(bit(of[0][op.Party], op.K))
	case api.OpGarb:
		w = garbledShares(i, op, of, gots[0], gots[1])
	case api.OpOut:
		w = [2]uint64{plus(of[0][:]...), plus(of[0][:]...)}
	case api.OpOutB:
		w = [2]uint64{xor(of[0][0], of[0][1]), xor(of[0][0], of[0][1])}
	default:
		for party := range w {
			w[party] = ownShare(op, of, party)
		}
	}
	return w
}

// ownShare: of the kinds that each party makes of its own.
func ownShare(op api.Op, of [][2]uint64, party int) uint64 {
	a := of[0][party]
	switch op.Kind {
	case api.OpAdd:
		return plus(a, of[1][party])
	case api.OpSub:
		return less(a, of[1][party])
	case api.OpMulC:
		return times(a, op.C)
	case api.OpXor:
		return xor(a, of[1][party])
	}
	return alone(op, a)
}

// outsOf: of a program: the words of its OpOut and OpOutB, by their numbers.
func outsOf(ops []api.Op, shares []uint64) []uint64 {
	var l []uint64
	for n := 0; ; n++ {
		i := slices.IndexFunc(ops, func(op api.Op) bool {
			return (op.Kind == api.OpOut || op.Kind == api.OpOutB) && op.K == n
		})
		if i < 0 {
			return l
		}
		l = append(l, shares[i])
	}
}

// Things to try, the same in each run.

// noise tells words.
type noise uint64

func (s *noise) word() uint64 {
	*s += 0x9e3779b97f4a7c15
	x := uint64(*s)
	x = (x ^ x>>30) * 0xbf58476d1ce4e5b9
	x = (x ^ x>>27) * 0x94d049bb133111eb
	return x ^ x>>31
}

// below: a number from 0 to n - 1.
func (s *noise) below(n int) int { return int(s.word() % uint64(n)) }

func (s *noise) words(n int) []uint64 {
	l := make([]uint64, n)
	for i := range l {
		l[i] = s.word()
	}
	return l
}

func pick[T any](s *noise, l []T) T { return l[s.below(len(l))] }

// edgeWords: with few bits, many, or those at the ends.
func edgeWords() []uint64 {
	return []uint64{0, 1, 2, 3, 5, 1<<32 - 1, 1 << 32, 1<<62 - 1, 1 << 62, 1<<63 - 1, 1 << 63, 1<<63 + 1, math.MaxUint64 - 1, math.MaxUint64}
}

// element: a word at an edge, or any.
func (s *noise) element() uint64 {
	if s.below(2) == 0 {
		return pick(s, edgeWords())
	}
	return s.word()
}

// inputs: both parties', of so many elements.
func (s *noise) inputs(elems [2]int) (in [2][]uint64) {
	for party := range in {
		for range elems[party] {
			in[party] = append(in[party], s.element())
		}
	}
	return in
}

// program: one of so many operations of these lines, for inputs of so many elements.
func (s *noise) program(n int, elems [2]int, lines []row) []api.Op {
	var ops []api.Op
	var made []byte
	for len(ops) < n {
		r := pick(s, lines)
		op := api.Op{Kind: r.kind}
		ok := true
		for _, x := range []struct {
			form  byte
			place *int
		}{{r.a, &op.A}, {r.b, &op.B}} {
			if x.form == ' ' {
				continue
			}
			var fit []int
			for i, form := range made {
				if form == x.form || form == '*' {
					fit = append(fit, i)
				}
			}
			if ok = ok && len(fit) > 0; ok {
				*x.place = pick(s, fit)
			}
		}
		if !ok {
			r, op = row{makes: '*'}, api.Op{Kind: api.OpConst, C: s.element()}
		}
		if r.has("P") {
			op.Party = s.below(2)
		}
		switch {
		case r.has("e") && elems[op.Party] == 0:
			continue
		case r.has("e"):
			op.K = s.below(elems[op.Party])
		case r.has("k"):
			op.K = pick(s, []int{0, 1, 62, 63, s.below(64)})
		case r.kind == api.OpGarb:
			op.K, op.C = r.circuit, r.forms
		}
		if r.has("C") {
			op.C = s.element()
		}
		ops, made = append(ops, op), append(made, r.makes)
	}
	s.numberOuts(ops)
	return ops
}

// numberOuts: in any order.
func (s *noise) numberOuts(ops []api.Op) {
	var outs []int
	for i, op := range ops {
		if op.Kind == api.OpOut || op.Kind == api.OpOutB {
			outs = append(outs, i)
		}
	}
	for n := range outs {
		m := n + s.below(len(outs)-n)
		outs[n], outs[m] = outs[m], outs[n]
		ops[outs[n]].K = n
	}
}

// dealt: what a program needs, and so many more of each; the triples and OTs fit.
func (s *noise) dealt(need api.Need, more int) [2]*stuff {
	have := [2]*stuff{{words: s.words(need.Tape[0] + more)}, {words: s.words(need.Tape[1] + more)}}
	for range need.Triples + more {
		x, y := api.Triple{A: s.element(), B: s.element(), C: s.element()}, api.Triple{A: s.element(), B: s.element()}
		y.C = less(times(plus(x.A, y.A), plus(x.B, y.B)), x.C)
		have[0].triples, have[1].triples = append(have[0].triples, x), append(have[1].triples, y)
	}
	for range need.Bits + more {
		x, y := api.Triple{A: s.element(), B: s.element(), C: s.element()}, api.Triple{A: s.element(), B: s.element()}
		y.C = xor(and(xor(x.A, y.A), xor(x.B, y.B)), x.C)
		have[0].bits, have[1].bits = append(have[0].bits, x), append(have[1].bits, y)
	}
	for range need.OTs + more {
		x := api.OT{R: [2]api.Label{{s.word(), s.word()}, {s.word(), s.word()}}}
		y := api.OT{R: [2]api.Label{x.R[0]}}
		if s.below(2) == 1 {
			y = api.OT{R: [2]api.Label{x.R[1]}, Choice: true}
		}
		have[0].ots, have[1].ots = append(have[0].ots, x), append(have[1].ots, y)
	}
	return have
}

// undealt: what a program needs, of which nothing fits anything.
func (s *noise) undealt(need api.Need) (have [2]*stuff) {
	for party := range have {
		have[party] = &stuff{words: s.words(need.Tape[party])}
		for range need.Triples {
			have[party].triples = append(have[party].triples, api.Triple{A: s.element(), B: s.element(), C: s.element()})
		}
		for range need.Bits {
			have[party].bits = append(have[party].bits, api.Triple{A: s.element(), B: s.element(), C: s.element()})
		}
		for range need.OTs {
			have[party].ots = append(have[party].ots, api.OT{R: [2]api.Label{{s.word(), s.word()}, {s.word(), s.word()}}, Choice: s.below(2) == 1})
		}
	}
	return have
}
