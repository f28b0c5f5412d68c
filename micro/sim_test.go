package micro_test

import (
	"errors"
	"math"
	"math/big"
	"runtime"
	"slices"
	"testing"
	"unsafe"
	"weak"

	"twain/api"
	"twain/corr"
	"twain/fault"
	"twain/micro"
	"twain/tape"
)

// run: Sim with such stuff, in fresh tapes and stocks.
func run(ops []api.Op, in [2][]uint64, have [2]*stuff) ([2][]uint64, [2]*tape.Tape, [2]*corr.Stock, error) {
	tapes := [2]*tape.Tape{have[0].tape(), have[1].tape()}
	stocks := [2]*corr.Stock{have[0].stock(), have[1].stock()}
	w, err := micro.Sim(ops, [2]int{len(in[0]), len(in[1])}, in, tapes, stocks)
	return w, tapes, stocks, err
}

// checkSim: Sim answers by the words, and uses up what is said.
func checkSim(t *testing.T, ops []api.Op, in [2][]uint64, have [2]*stuff) [2][]uint64 {
	t.Helper()
	w, tapes, stocks, err := run(ops, in, have)
	left := [2]*stuff{have[0].clone(), have[1].clone()}
	want, lack := sharesOf(ops, in, left)
	if fault.Code(err) != lack {
		t.Fatalf("Sim(%v): %v, want %d", short(ops), err, lack)
	}
	for party := range w {
		if !slices.Equal(w[party], want[party]) {
			t.Fatalf("Sim(%v): party %d has %#x, want %#x", short(ops), party, w[party], want[party])
		}
		if lack != api.OK {
			continue
		}
		triples, bits, ots := stocks[party].Left()
		if tapes[party].Left() != len(left[party].words) || triples != len(left[party].triples) || bits != len(left[party].bits) || ots != len(left[party].ots) {
			t.Fatalf("Sim(%v): party %d has %d, %d, %d, %d left, want %d, %d, %d, %d", short(ops), party,
				tapes[party].Left(), triples, bits, ots, len(left[party].words), len(left[party].triples), len(left[party].bits), len(left[party].ots))
		}
	}
	return w
}

// garbledWord: what the operation (chapter 9) says of these words.
func garbledWord(op api.Op, x, y uint64) uint64 {
	below := signed(x).Cmp(signed(y)) < 0
	switch op.K {
	case api.GarbRelu:
		if signed(x).Sign() < 0 {
			return 0
		}
		return x
	case api.GarbLess:
		if below {
			return 1
		}
		return 0
	}
	if below {
		return y
	}
	return x
}

// together: what both shares say of the operation's word by the table, of what the shares of its operands say.
func together(op api.Op, in [2][]uint64, words [2][]uint64) (got func(x, y uint64) uint64, want uint64) {
	r, _ := rowOf(op)
	var l []uint64
	for i, place := range r.places(op) {
		join := plus2
		if []byte{r.a, r.b}[i] == '^' {
			join = xor
		}
		l = append(l, join(words[0][place], words[1][place]))
	}
	switch op.Kind {
	case api.OpIn:
		return plus2, in[op.Party][op.K]
	case api.OpConst:
		return plus2, op.C
	case api.OpAdd:
		return plus2, plus(l[0], l[1])
	case api.OpSub:
		return plus2, less(l[0], l[1])
	case api.OpMulC:
		return plus2, times(l[0], op.C)
	case api.OpMul:
		return plus2, times(l[0], l[1])
	case api.OpXor:
		return xor, xor(l[0], l[1])
	case api.OpXorC:
		return xor, xor(l[0], op.C)
	case api.OpAnd:
		return xor, and(l[0], l[1])
	case api.OpMine:
		return xor, words[op.Party][op.A]
	case api.OpBit:
		return plus2, uint64(bit(words[op.Party][op.A], op.K))
	case api.OpGarb:
		return xor, garbledWord(op, l[0], l[len(l)-1])
	case api.OpOut, api.OpOutB:
		return func(x, y uint64) uint64 {
			if x != y {
				return l[0] + 1
			}
			return x
		}, l[0]
	}
	return xor, alone(op, l[0])
}

func plus2(x, y uint64) uint64 { return plus(x, y) }

// checkTogether: with triples and OTs that fit, each word is what the table says.
func checkTogether(t *testing.T, ops []api.Op, in [2][]uint64, words [2][]uint64) {
	t.Helper()
	for i, op := range ops {
		join, want := together(op, in, words)
		if got := join(words[0][i], words[1][i]); got != want {
			t.Fatalf("%v at %d of %v: %#x and %#x say %#x, want %#x", op, i, short(ops), words[0][i], words[1][i], got, want)
		}
		if op.Kind == api.OpConst && xor(words[0][i], words[1][i]) != op.C {
			t.Fatalf("%v at %d counts as boolean, too", op, i)
		}
	}
}

// Shares of each kind, worked out by hand: party 0 has 10 of the first element, 12, and party 1 has 20 of the second one, 5, and 3 of the third.
func TestSharesByHand(t *testing.T) {
	neg := func(x uint64) uint64 { return -x }
	ahead := []api.Op{{Kind: api.OpIn}, {Kind: api.OpIn, Party: 1}, {Kind: api.OpMine, A: 0}, {Kind: api.OpMine, A: 1, Party: 1}, {Kind: api.OpConst, C: 6}, {Kind: api.OpXor, A: 2, B: 3}}
	have := [2]*stuff{
		{words: []uint64{10}, triples: []api.Triple{{A: 1, B: 2, C: 3}}, bits: []api.Triple{{A: 1, B: 2, C: 4}}},
		{words: []uint64{20}, triples: []api.Triple{{A: 4, B: 5, C: 6}}, bits: []api.Triple{{A: 8, B: 16, C: 32}}},
	}
	want := [2][]uint64{{10, neg(15), 10, 0, 6, 10}, {2, 20, 0, 20, 0, 20}}
	for _, x := range []struct {
		op   api.Op
		w, v uint64
	}{
		{api.Op{Kind: api.OpConst, C: 1 << 63}, 1 << 63, 0},
		{api.Op{Kind: api.OpAdd, A: 0, B: 1}, neg(5), 22},
		{api.Op{Kind: api.OpAdd, A: 1, B: 4}, neg(9), 20},
		{api.Op{Kind: api.OpSub, A: 0, B: 1}, 25, neg(18)},
		{api.Op{Kind: api.OpSub, A: 1, B: 0}, neg(25), 18},
		{api.Op{Kind: api.OpMulC, A: 0, C: 3}, 30, 6},
		{api.Op{Kind: api.OpMulC, A: 1, C: math.MaxUint64}, 15, neg(20)},
		// d is 12 - 5, e is 5 - 7.
		{api.Op{Kind: api.OpMul, A: 0, B: 1}, 3 + 7*2 - 2*1 - 7*2, 6 + 7*5 - 2*4},
		// d is 5 - 5, e is 12 - 7.
		{api.Op{Kind: api.OpMul, A: 1, B: 0}, 3 + 0*2 + 5*1 + 0*5, 6 + 0*5 + 5*4},
		{api.Op{Kind: api.OpXor, A: 2, B: 3}, 10, 20},
		{api.Op{Kind: api.OpXor, A: 2, B: 4}, 12, 0},
		{api.Op{Kind: api.OpXorC, A: 2, C: 3}, 9, 0},
		{api.Op{Kind: api.OpXorC, A: 3, C: 3}, 3, 20},
		// d is 10 ^ 9 = 3, e is 20 ^ 18 = 6.
		{api.Op{Kind: api.OpAnd, A: 2, B: 3}, 4 ^ 3&2 ^ 6&1 ^ 3&6, 32 ^ 3&16 ^ 6&8},
		// d is 30 ^ 9 = 23, e is 6 ^ 18 = 20.
		{api.Op{Kind: api.OpAnd, A: 5, B: 4}, 4 ^ 23&2 ^ 20&1 ^ 23&20, 32 ^ 23&16 ^ 20&8},
		{api.Op{Kind: api.OpAndC, A: 2, C: 3}, 2, 0},
		{api.Op{Kind: api.OpAndC, A: 3, C: 5}, 0, 4},
		{api.Op{Kind: api.OpShl, A: 5, K: 2}, 40, 80},
		{api.Op{Kind: api.OpShl, A: 5, K: 62}, 1 << 63, 0},
		{api.Op{Kind: api.OpShl, A: 5}, 10, 20},
		{api.Op{Kind: api.OpShr, A: 5, K: 2}, 2, 5},
		{api.Op{Kind: api.OpShr, A: 5, K: 63}, 0, 0},
		{api.Op{Kind: api.OpSar, A: 5, K: 3}, 1, 2},
		{api.Op{Kind: api.OpSpread, A: 5}, 0, 0},
		{api.Op{Kind: api.OpMine, A: 1}, neg(15), 0},
		{api.Op{Kind: api.OpMine, A: 0, Party: 1}, 0, 2},
		{api.Op{Kind: api.OpMine, A: 4}, 6, 0},
		{api.Op{Kind: api.OpMine, A: 4, Party: 1}, 0, 0},
		{api.Op{Kind: api.OpBit, A: 5, K: 1}, 1, 0},
		{api.Op{Kind: api.OpBit, A: 5, K: 2}, 0, 0},
		{api.Op{Kind: api.OpBit, A: 5, K: 2, Party: 1}, 0, 1},
		{api.Op{Kind: api.OpBit, A: 5, K: 3, Party: 1}, 0, 0},
		{api.Op{Kind: api.OpOut, A: 0}, 12, 12},
		{api.Op{Kind: api.OpOut, A: 1}, 5, 5},
		{api.Op{Kind: api.OpOut, A: 4}, 6, 6},
		{api.Op{Kind: api.OpOutB, A: 5}, 30, 30},
		{api.Op{Kind: api.OpOutB, A: 4}, 6, 6},
	} {
		ops := append(slices.Clone(ahead), x.op)
		w, _, _, err := run(ops, [2][]uint64{{12}, {5}}, have)
		if err != nil || !slices.Equal(w[0], append(slices.Clone(want[0]), x.w)) || !slices.Equal(w[1], append(slices.Clone(want[1]), x.v)) {
			t.Errorf("%v: %d, %v, want %d, %d", x.op, w, err, x.w, x.v)
		}
	}
}

// The highest bit stays, and the lowest one goes everywhere: in the shares of each party.
func TestHighShares(t *testing.T) {
	const high = 1<<63 | 1
	ops := []api.Op{
		{Kind: api.OpIn}, {Kind: api.OpMine}, {Kind: api.OpMine, Party: 1}, {Kind: api.OpXor, A: 1, B: 2},
		{Kind: api.OpSar, A: 3, K: 63}, {Kind: api.OpSar, A: 3, K: 1}, {Kind: api.OpSar, A: 3}, {Kind: api.OpSpread, A: 3}, {Kind: api.OpShr, A: 3, K: 63}, {Kind: api.OpShl, A: 3, K: 63},
		{Kind: api.OpBit, A: 3, K: 63}, {Kind: api.OpBit, A: 3, K: 63, Party: 1}, {Kind: api.OpBit, A: 3}, {Kind: api.OpBit, A: 3, Party: 1},
	}
	w, _, _, err := run(ops, [2][]uint64{{high + 6}, nil}, [2]*stuff{{words: []uint64{high}}, {}})
	want := [2][]uint64{
		{high, high, 0, high, math.MaxUint64, 3 << 62, high, math.MaxUint64, 1, 1 << 63, 1, 0, 1, 0},
		{6, 0, 6, 6, 0, 3, 6, 0, 0, 0, 0, 0, 0, 0},
	}
	if err != nil || !slices.Equal(w[0], want[0]) || !slices.Equal(w[1], want[1]) {
		t.Errorf("%#x, %v, want %#x", w, err, want)
	}
	// And where party 1 has the high share.
	w, _, _, err = run(ops, [2][]uint64{{high + 6}, nil}, [2]*stuff{{words: []uint64{6}}, {}})
	want[0], want[1] = want[1], want[0]
	want[0][1], want[0][2], want[1][1], want[1][2] = 6, 0, 0, high
	want[0][10], want[1][10], want[0][11], want[1][11] = 0, 0, 0, 1
	want[0][12], want[1][12], want[0][13], want[1][13] = 0, 0, 0, 1
	if err != nil || !slices.Equal(w[0], want[0]) || !slices.Equal(w[1], want[1]) {
		t.Errorf("%#x, %v, want %#x", w, err, want)
	}
}

// Shares of all circuits in one program, worked out by the chapters' words apart from this program, its circuits, ciphers and dealer too.
func TestGarbledWrittenOut(t *testing.T) {
	ops := []api.Op{
		{Kind: api.OpIn}, {Kind: api.OpIn, Party: 1}, {Kind: api.OpGarb, K: 1}, {Kind: api.OpMine}, {Kind: api.OpGarb, K: 1, C: 1, A: 3},
		{Kind: api.OpGarb, K: 2, A: 0, B: 1}, {Kind: api.OpGarb, K: 2, C: 1, A: 3, B: 1}, {Kind: api.OpGarb, K: 2, C: 2, A: 0, B: 3},
		{Kind: api.OpIn, K: 1}, // drawn behind the zero labels of the places ahead of it
		{Kind: api.OpGarb, K: 2, C: 3, A: 3, B: 4}, {Kind: api.OpGarb, K: 3, A: 0, B: 8}, {Kind: api.OpGarb, K: 3, C: 1, A: 4, B: 1},
		{Kind: api.OpGarb, K: 3, C: 2, A: 8, B: 9}, {Kind: api.OpGarb, K: 3, C: 3, A: 3, B: 4},
		{Kind: api.OpMul, A: 1, B: 8}, {Kind: api.OpAnd, A: 10, B: 3}, {Kind: api.OpBit, A: 15, K: 1, Party: 1},
	}
	want := [2][]uint64{
		{
			0xf893a2eefb32555e, 0xe8a7ca21e368a93b, 0xc8a0b9440cb794e, 0xf893a2eefb32555e, 0x69797dab28c657eb, 0x0,
			0x1, 0x1, 0x9aa8746ac22ee0ee, 0x1, 0xe78334111ecd7c76, 0x6e8e6c1915ecf153,
			0x53281e7ac0faba99, 0x22f5ade452ada28, 0xdb5289e95a5c4ea9, 0x41f54e92a93cd050, 0x0,
		},
		{
			0x76c5d1104cdaaa9, 0x975835de1c9756ce, 0xc8a0b9440cb7949, 0x0, 0x69797dab28c657eb, 0x0,
			0x1, 0x1, 0x65578b953dd11f0d, 0x0, 0xe78334111ecd7c71, 0x6e8e6c1915ecf153,
			0x53281e7ac0faba98, 0x22f5ade452ada28, 0xa4ad7616a5a3b12a, 0x41f54e92a93cd056, 0x1,
		},
	}
	need := micro.Need(ops)
	seeds := [3]noise{1, 2, 3}
	stocks, err := corr.Deal(tape.Load(seeds[2].words(5*(need.Triples+need.Bits+need.OTs))), need.Triples, need.Bits, need.OTs)
	if err != nil {
		t.Fatal(err)
	}
	tapes := [2]*tape.Tape{tape.Load(seeds[0].words(need.Tape[0])), tape.Load(seeds[1].words(need.Tape[1]))}
	w, err := micro.Sim(ops, [2]int{2, 1}, [2][]uint64{{7, math.MaxUint64 - 4}, {1<<63 + 9}}, tapes, stocks)
	if err != nil || !slices.Equal(w[0], want[0]) || !slices.Equal(w[1], want[1]) {
		t.Errorf("%#x, %v, want %#x", w, err, want)
	}
	for party := range 2 {
		triples, bits, ots := stocks[party].Left()
		if tapes[party].Left() != 0 || triples != 0 || bits != 0 || ots != 0 {
			t.Errorf("party %d has %d, %d, %d, %d left", party, tapes[party].Left(), triples, bits, ots)
		}
	}
}

// Programs of all kinds but OpGarb: with triples that fit, of which more are there than needed, and with some that don't.
func TestShares(t *testing.T) {
	s := noise(10)
	for range 1500 {
		elems := [2]int{s.below(4), s.below(4)}
		ops, in := s.program(s.below(40), elems, plainRows()), s.inputs(elems)
		need := micro.Need(ops)
		checkTogether(t, ops, in, checkSim(t, ops, in, s.dealt(need, s.below(3))))
		checkSim(t, ops, in, s.undealt(need))
	}
}

// Programs with several OpGarb among others.
func TestSharesWithGarbs(t *testing.T) {
	s := noise(11)
	for range 25 {
		elems := [2]int{1 + s.below(3), s.below(3)}
		ops, in := s.program(2+s.below(20), elems, append(rows(), garbRows()...)), s.inputs(elems)
		need := micro.Need(ops)
		checkTogether(t, ops, in, checkSim(t, ops, in, s.dealt(need, s.below(3))))
		checkSim(t, ops, in, s.undealt(need))
	}
}

// What each kind makes of great and small words, however they are shared.
func TestTogetherOfEdges(t *testing.T) {
	s := noise(12)
	for _, x := range edgeWords() {
		for _, y := range edgeWords() {
			// Arithmetic 0 and 1, boolean 4 and 7: the words themselves, each shared by both.
			ops := []api.Op{
				{Kind: api.OpIn}, {Kind: api.OpIn, Party: 1},
				{Kind: api.OpIn, K: 1}, {Kind: api.OpMine, A: 2}, {Kind: api.OpXorC, A: 3, C: 0},
				{Kind: api.OpIn, K: 1, Party: 1}, {Kind: api.OpMine, A: 5, Party: 1}, {Kind: api.OpXor, A: 6, B: 3},
			}
			for _, k := range []int{0, 1, 31, 32, 62, 63} {
				for _, kind := range []api.OpKind{api.OpShl, api.OpShr, api.OpSar, api.OpBit} {
					ops = append(ops, api.Op{Kind: kind, A: 7, K: k}, api.Op{Kind: kind, A: 4, K: k})
				}
				ops = append(ops, api.Op{Kind: api.OpBit, A: 7, K: k, Party: 1})
			}
			for _, kind := range []api.OpKind{api.OpAdd, api.OpSub, api.OpMul} {
				ops = append(ops, api.Op{Kind: kind, A: 0, B: 1}, api.Op{Kind: kind, A: 1, B: 0}, api.Op{Kind: kind, A: 1, B: 1})
			}
			for _, kind := range []api.OpKind{api.OpXor, api.OpAnd} {
				ops = append(ops, api.Op{Kind: kind, A: 4, B: 7}, api.Op{Kind: kind, A: 7, B: 4}, api.Op{Kind: kind, A: 7, B: 7})
			}
			ops = append(ops, api.Op{Kind: api.OpMulC, A: 0, C: y}, api.Op{Kind: api.OpXorC, A: 7, C: y}, api.Op{Kind: api.OpAndC, A: 7, C: y}, api.Op{Kind: api.OpSpread, A: 7}, api.Op{Kind: api.OpConst, C: x})
			ops = append(ops, api.Op{Kind: api.OpOut, A: 0}, api.Op{Kind: api.OpOutB, A: 7, K: 1})
			in := [2][]uint64{{x, x}, {y, y}}
			checkTogether(t, ops, in, checkSim(t, ops, in, s.dealt(micro.Need(ops), 0)))
		}
	}
}

// What each circuit makes of great and small words, in all forms, however they are shared.
func TestGarbledOfEdges(t *testing.T) {
	s := noise(13)
	for _, x := range []uint64{0, 1, 1<<63 - 1, 1 << 63, math.MaxUint64, s.word()} {
		for _, y := range []uint64{0, 1 << 63, math.MaxUint64 - 1, s.word(), x} {
			// Arithmetic 0 and 1; boolean 4 and 7, of shares that both have bits of.
			ops := []api.Op{
				{Kind: api.OpIn}, {Kind: api.OpIn, Party: 1},
				{Kind: api.OpMine}, {Kind: api.OpMine, Party: 1}, {Kind: api.OpXor, A: 2, B: 3},
				{Kind: api.OpMine, A: 1}, {Kind: api.OpMine, A: 1, Party: 1}, {Kind: api.OpXor, A: 5, B: 6},
			}
			for _, r := range garbRows() {
				op := api.Op{Kind: api.OpGarb, K: r.circuit, C: r.forms, A: 0}
				if r.a == '^' {
					op.A = 4
				}
				switch r.b {
				case '+':
					op.B = 1
				case '^':
					op.B = 7
				}
				ops = append(ops, op)
			}
			in := [2][]uint64{{x}, {y}}
			w, _, _, err := run(ops, in, s.dealt(micro.Need(ops), 0))
			if err != nil {
				t.Fatal(err)
			}
			checkTogether(t, ops, in, w)
		}
	}
}

// Each circuit in each form, of a word that is all there is: an OpConst.
func TestGarbledAlone(t *testing.T) {
	s := noise(14)
	for _, r := range garbRows() {
		for _, x := range []uint64{0, 5, 1 << 63, math.MaxUint64} {
			ops := []api.Op{{Kind: api.OpConst, C: x}, {Kind: api.OpGarb, K: r.circuit, C: r.forms}}
			w := checkSim(t, ops, [2][]uint64{}, s.dealt(micro.Need(ops), 0))
			checkTogether(t, ops, [2][]uint64{}, w)
			checkSim(t, ops, [2][]uint64{}, s.undealt(micro.Need(ops)))
		}
	}
}

// Two OpGarb alike, which draw the same: only their tweaks, which hang on the place, tell their shares apart.
func TestTweaksByThePlace(t *testing.T) {
	s := noise(15)
	garb := api.Op{Kind: api.OpGarb, K: api.GarbMax}
	for _, between := range []int{0, 1, 7, 1000} {
		ops := []api.Op{{Kind: api.OpConst, C: s.word()}, garb}
		for range between {
			ops = append(ops, api.Op{Kind: api.OpConst})
		}
		ops = append(ops, garb)
		have := s.dealt(micro.Need(ops), 0)
		copy(have[0].words[2+512:], have[0].words[2:2+512])
		for party := range have {
			copy(have[party].ots[128:], have[party].ots[:128])
		}
		w := checkSim(t, ops, [2][]uint64{}, have)
		if last := len(ops) - 1; w[0][1] == w[0][last] {
			t.Errorf("the shares at 1 and %d are alike: %#x", last, w[0][1])
		}
		checkTogether(t, ops, [2][]uint64{}, w)
	}
}

// Delta's lowest bit is made 1, whatever is drawn.
func TestColourOfDelta(t *testing.T) {
	s := noise(16)
	ops := []api.Op{{Kind: api.OpConst, C: 5}, {Kind: api.OpGarb, K: api.GarbRelu}}
	for _, delta := range [][2]uint64{{0, 0}, {1, 0}, {2, 5}, {math.MaxUint64, math.MaxUint64}, {math.MaxUint64 - 1, 0}} {
		have := s.dealt(micro.Need(ops), 0)
		copy(have[0].words, delta[:])
		checkTogether(t, ops, [2][]uint64{}, checkSim(t, ops, [2][]uint64{}, have))
	}
	// All that is drawn is 0.
	have := [2]*stuff{{words: make([]uint64, 258), ots: make([]api.OT, 64)}, {ots: make([]api.OT, 64)}}
	checkTogether(t, ops, [2][]uint64{}, checkSim(t, ops, [2][]uint64{}, have))
}

// The same tape, and the same stock, for both: party 0 draws all of its own first.
func TestOneTapeForBoth(t *testing.T) {
	s := noise(17)
	for n := range 300 {
		lines := plainRows()
		if n%30 == 0 {
			lines = rows()
		}
		elems := [2]int{1 + s.below(2), 1 + s.below(2)}
		ops, in := s.program(1+s.below(12), elems, lines), s.inputs(elems)
		need := micro.Need(ops)
		need.Triples, need.Bits, need.OTs, need.Tape = 2*need.Triples, 2*need.Bits, 2*need.OTs, [2]int{need.Tape[0] + need.Tape[1], 0}
		if s.below(2) == 0 { // something may lack
			need.Triples, need.Bits, need.OTs, need.Tape[0] = need.Triples-min(need.Triples, s.below(2)), need.Bits-min(need.Bits, s.below(2)), need.OTs-min(need.OTs, s.below(2)), need.Tape[0]-min(need.Tape[0], s.below(2))
		}
		both := s.undealt(need)[0]
		oneTape, oneStock := both.tape(), both.stock()
		w, err := micro.Sim(ops, elems, in, [2]*tape.Tape{oneTape, oneTape}, [2]*corr.Stock{oneStock, oneStock})
		want, lack := sharesOf(ops, in, [2]*stuff{both, both})
		if fault.Code(err) != lack || !slices.Equal(w[0], want[0]) || !slices.Equal(w[1], want[1]) {
			t.Fatalf("Sim(%v): %#x, %v, want %#x, %d", ops, w, err, want, lack)
		}
	}
}

// shorten: one thing less, of either party.
func shorten(have [2]*stuff, what int) (api.Errno, bool) {
	s := have[what%2]
	switch n := what / 2; {
	case n == 0 && len(s.words) > 0:
		s.words = s.words[:len(s.words)-1]
		return api.ErrTape, true
	case n == 1 && len(s.triples) > 0:
		s.triples = s.triples[:len(s.triples)-1]
	case n == 2 && len(s.bits) > 0:
		s.bits = s.bits[:len(s.bits)-1]
	case n == 3 && len(s.ots) > 0:
		s.ots = s.ots[:len(s.ots)-1]
	default:
		return api.OK, false
	}
	return api.ErrStock, true
}

// With one word, triple, bit triple or OT less than is needed, of either party.
func TestOneLacks(t *testing.T) {
	s := noise(18)
	ops := []api.Op{
		{Kind: api.OpIn}, {Kind: api.OpIn, Party: 1}, {Kind: api.OpMul, B: 1}, {Kind: api.OpMine}, {Kind: api.OpAnd, A: 3, B: 3}, {Kind: api.OpGarb, K: api.GarbLess, B: 1},
	}
	in := [2][]uint64{{1}, {2}}
	for what := range 8 {
		have := s.dealt(micro.Need(ops), 0)
		want, ok := shorten(have, what)
		if !ok {
			t.Fatalf("nothing of %d is needed", what)
		}
		w, _, _, err := run(ops, in, have)
		if fault.Code(err) != want || w[0] != nil || w[1] != nil {
			t.Errorf("%d: %v, %v, want %d", what, w, err, want)
		}
		checkSim(t, ops, in, have)
	}
	checkSim(t, ops, in, s.dealt(micro.Need(ops), 0))
}

// What lacks first, in the order in which is drawn, is told: place by place, all of party 0's first.
func TestWhatLacksFirst(t *testing.T) {
	in, in1 := api.Op{Kind: api.OpIn}, api.Op{Kind: api.OpIn, Party: 1}
	mul, and, garb := api.Op{Kind: api.OpMul}, api.Op{Kind: api.OpAnd}, api.Op{Kind: api.OpGarb, K: api.GarbRelu}
	one := api.Op{Kind: api.OpConst}
	three, bits, many := make([]api.Triple, 3), make([]api.Triple, 3), make([]api.OT, 200)
	long := make([]uint64, 600)
	full := stuff{words: long, triples: three, bits: bits, ots: many}
	for i, x := range []struct {
		ops  []api.Op
		a, b stuff
		want api.Errno
	}{
		{[]api.Op{in, mul}, stuff{}, full, api.ErrTape},
		{[]api.Op{one, mul, in}, stuff{}, full, api.ErrStock},
		{[]api.Op{one, mul, in}, stuff{triples: three}, full, api.ErrTape},
		{[]api.Op{one, mul, in}, stuff{words: long}, full, api.ErrStock},
		{[]api.Op{one, mul, in}, stuff{bits: bits, ots: many}, full, api.ErrStock},
		{[]api.Op{one, and, in}, stuff{}, full, api.ErrStock},
		{[]api.Op{one, and, in}, stuff{triples: three}, full, api.ErrStock},
		{[]api.Op{one, and, in}, stuff{bits: bits}, full, api.ErrTape},
		// Delta is drawn ahead of all.
		{[]api.Op{one, mul, garb}, stuff{}, full, api.ErrTape},
		{[]api.Op{one, mul, garb}, stuff{words: long[:1]}, full, api.ErrTape},
		{[]api.Op{one, mul, garb}, stuff{words: long[:2]}, full, api.ErrStock},
		// The OTs of an operation are drawn ahead of its zero labels.
		{[]api.Op{one, garb}, stuff{words: long[:2]}, full, api.ErrStock},
		{[]api.Op{one, garb}, stuff{words: long[:2], ots: many[:63]}, full, api.ErrStock},
		{[]api.Op{one, garb}, stuff{words: long[:2], ots: many[:64]}, full, api.ErrTape},
		{[]api.Op{one, garb}, stuff{words: long[:257], ots: many[:64]}, full, api.ErrTape},
		{[]api.Op{one, garb}, stuff{words: long[:258], ots: many[:64]}, full, api.OK},
		{[]api.Op{one, garb, in, mul}, stuff{words: long[:258], ots: many[:64]}, full, api.ErrTape},
		{[]api.Op{one, garb, mul, in}, stuff{words: long[:258], ots: many[:64]}, full, api.ErrStock},
		{[]api.Op{one, garb, garb}, stuff{words: long[:258], ots: many[:128]}, full, api.ErrTape},
		{[]api.Op{one, garb, garb}, stuff{words: long[:258], ots: many[:127]}, full, api.ErrStock},
		// Of another's input nothing is drawn.
		{[]api.Op{in1}, stuff{}, stuff{words: long[:1]}, api.OK},
		{[]api.Op{in1}, full, stuff{}, api.ErrTape},
		{[]api.Op{in}, full, stuff{}, api.OK},
		// Party 0 draws all of its own first.
		{[]api.Op{in1, mul}, stuff{}, stuff{}, api.ErrStock},
		{[]api.Op{one, mul, in}, stuff{triples: three}, stuff{}, api.ErrTape},
		{[]api.Op{in1, mul}, full, stuff{}, api.ErrTape},
		{[]api.Op{one, mul, in1}, full, stuff{}, api.ErrStock},
		{[]api.Op{one, garb}, full, stuff{}, api.ErrStock},
		{[]api.Op{one, garb}, full, stuff{ots: many[:63]}, api.ErrStock},
		{[]api.Op{one, garb}, full, stuff{ots: many[:64]}, api.OK},
		{[]api.Op{one, garb, in1}, full, stuff{ots: many[:64]}, api.ErrTape},
	} {
		w, _, _, err := run(x.ops, [2][]uint64{{1}, {1}}, [2]*stuff{&x.a, &x.b})
		if fault.Code(err) != x.want || x.want != api.OK && (w[0] != nil || w[1] != nil) {
			t.Errorf("%d: %v: %v, %v, want %d", i, x.ops, w, err, x.want)
		}
		checkSim(t, x.ops, [2][]uint64{{1}, {1}}, [2]*stuff{&x.a, &x.b})
	}
}

// Programs with things that lack, of either party.
func TestLacking(t *testing.T) {
	s := noise(19)
	for n := range 1500 {
		lines := plainRows()
		if n%50 == 0 {
			lines = rows()
		}
		elems := [2]int{1 + s.below(2), 1 + s.below(2)}
		ops, in := s.program(1+s.below(12), elems, lines), s.inputs(elems)
		have := s.undealt(micro.Need(ops))
		for range 1 + s.below(4) {
			shorten(have, s.below(8))
		}
		checkSim(t, ops, in, have)
	}
}

// Inputs that aren't as many as their elements, ahead of what lacks, behind what is no program.
func TestInputs(t *testing.T) {
	ops := []api.Op{{Kind: api.OpIn, K: 1}, {Kind: api.OpMul}}
	for n := range 5 {
		for m := range 5 {
			elems := [2]int{2, 3}
			in := [2][]uint64{make([]uint64, n), make([]uint64, m)}
			none := [2]*corr.Stock{corr.Load(nil, nil, nil), corr.Load(nil, nil, nil)}
			tapes := [2]*tape.Tape{tape.Load([]uint64{1}), tape.Load(nil)}
			want := api.ErrInput
			if n == 2 && m == 3 {
				want = api.ErrStock
			}
			w, err := micro.Sim(ops, elems, in, tapes, none)
			if fault.Code(err) != want || w[0] != nil || w[1] != nil {
				t.Errorf("Sim with %d and %d inputs: %v, %v, want %d", n, m, w, err, want)
			}
			if used := tapes[0].Used(); want == api.ErrInput && used != 0 {
				t.Errorf("Sim with %d and %d inputs: %d words are used up", n, m, used)
			}
			_, err = micro.Sim(ops, [2]int{1, 3}, in, tapes, none)
			if fault.Code(err) != api.ErrMicro {
				t.Errorf("Sim with an input beyond the last one: %v", err)
			}
		}
	}
	// No inputs are wanted: then none may be there.
	none := [2]*corr.Stock{corr.Load(nil, nil, nil), corr.Load(nil, nil, nil)}
	tapes := [2]*tape.Tape{tape.Load(nil), tape.Load(nil)}
	for _, x := range []struct {
		in   [2][]uint64
		want api.Errno
	}{
		{[2][]uint64{}, api.OK}, {[2][]uint64{{}, {}}, api.OK}, {[2][]uint64{{1}, nil}, api.ErrInput}, {[2][]uint64{nil, {1}}, api.ErrInput},
	} {
		if w, err := micro.Sim(nil, [2]int{}, x.in, tapes, none); fault.Code(err) != x.want || len(w[0]) != 0 || len(w[1]) != 0 {
			t.Errorf("Sim of nothing with %v: %v, %v", x.in, w, err)
		}
	}
	// As many elements as there may be.
	in := [2][]uint64{make([]uint64, mostElems), make([]uint64, mostElems)}
	in[1][mostElems-1] = 77
	ops = []api.Op{{Kind: api.OpIn, Party: 1, K: mostElems - 1}, {Kind: api.OpOut}}
	w, err := micro.Sim(ops, [2]int{mostElems, mostElems}, in, [2]*tape.Tape{tape.Load(nil), tape.Load([]uint64{5})}, none)
	if err != nil || !slices.Equal(w[0], []uint64{72, 77}) || !slices.Equal(w[1], []uint64{5, 77}) {
		t.Errorf("Sim of the last element: %v, %v", w, err)
	}
}

// Each element is what its OpIn names, of its own party; one that comes twice is drawn for twice.
func TestElementsByNumber(t *testing.T) {
	in := [2][]uint64{{100, 101, 102}, {200, 201}}
	ops := []api.Op{{Kind: api.OpIn, K: 2}, {Kind: api.OpIn, K: 1, Party: 1}, {Kind: api.OpIn, K: 0}, {Kind: api.OpIn, K: 2}, {Kind: api.OpIn, Party: 1}}
	w, _, _, err := run(ops, in, [2]*stuff{{words: []uint64{1, 2, 3}}, {words: []uint64{4, 5}}})
	if err != nil || !slices.Equal(w[0], []uint64{1, 197, 2, 3, 195}) || !slices.Equal(w[1], []uint64{101, 4, 98, 99, 5}) {
		t.Errorf("Sim: %v, %v", w, err)
	}
}

// What is told is the same for both, and Outs finds it by its number.
func TestOutsOfRuns(t *testing.T) {
	s := noise(20)
	for range 300 {
		elems := [2]int{1 + s.below(3), s.below(3)}
		ops, in := s.program(1+s.below(30), elems, plainRows()), s.inputs(elems)
		w, _, _, err := run(ops, in, s.dealt(micro.Need(ops), 0))
		if err != nil {
			t.Fatal(err)
		}
		a, b := micro.Outs(ops, w[0]), micro.Outs(ops, w[1])
		if !slices.Equal(a, b) || !slices.Equal(a, outsOf(ops, w[1])) {
			t.Fatalf("Outs of %v: %v, %v", ops, a, b)
		}
	}
}

// The sum of great programs is right, whatever is drawn: the product of many sums, by numbers without an end.
func TestGreatSums(t *testing.T) {
	s := noise(21)
	ops := []api.Op{{Kind: api.OpConst, C: 1}}
	want := big.NewInt(1)
	in := [2][]uint64{s.words(100), s.words(100)}
	for k := range 100 {
		n := len(ops)
		ops = append(ops, api.Op{Kind: api.OpIn, K: k}, api.Op{Kind: api.OpIn, K: k, Party: 1}, api.Op{Kind: api.OpSub, A: n, B: n + 1}, api.Op{Kind: api.OpMul, A: n - 1, B: n + 2})
		if k == 0 {
			ops[4].A = 0
		}
		want.Mul(want, new(big.Int).Sub(number(in[0][k]), number(in[1][k])))
	}
	last := len(ops) - 1
	ops = append(ops, api.Op{Kind: api.OpOut, A: last})
	w, _, _, err := run(ops, in, s.dealt(micro.Need(ops), 0))
	if err != nil {
		t.Fatal(err)
	}
	if out := micro.Outs(ops, w[0]); !slices.Equal(out, []uint64{word(want)}) {
		t.Errorf("Outs: %v, want %d", out, word(want))
	}
}

// spoil writes up to the end of the spare room.
func spoil[T any](l []T, with T) {
	for i := range l[:cap(l)] {
		l[:cap(l)][i] = with
	}
}

// roomy: a list with spare room behind it, which holds the thing.
func roomy[T any](l []T, behind T) []T {
	room := append(slices.Clone(l), behind, behind, behind)
	return room[:len(l)]
}

// watch tells whether a list, its spare room included, stays as it is now.
func watch[T comparable](l []T) func() bool {
	was := slices.Clone(l[:cap(l)])
	return func() bool { return slices.Equal(l[:cap(l)], was) }
}

// What is handed in stays, spare room included, whether it is taken or refused.
func TestWhatIsHandedInStays(t *testing.T) {
	s := noise(22)
	for n := range 300 {
		lines := plainRows()
		if n%30 == 0 {
			lines = rows()
		}
		elems := [2]int{1 + s.below(3), 1 + s.below(3)}
		ops, in := s.program(s.below(20), elems, lines), s.inputs(elems)
		if len(ops) > 0 && s.below(2) == 0 {
			ops[s.below(len(ops))].K = s.below(3)
		}
		ops = roomy(ops, api.Op{Kind: 77})
		in[0], in[1] = roomy(in[0], 78), roomy(in[1], 79)
		shares := roomy(s.words(len(ops)), 80)
		stays := []func() bool{watch(ops), watch(in[0]), watch(in[1]), watch(shares)}
		have := s.dealt(micro.Need(ops), 0)
		micro.Check(ops, elems)
		micro.Rounds(ops)
		micro.Need(ops)
		micro.Outs(ops, shares)
		run(ops, in, have)
		for i, same := range stays {
			if !same() {
				t.Fatalf("the list %d that was handed in is changed", i)
			}
		}
	}
}

// An answer stays, whatever becomes of what was handed in, of other answers, and of the answer's other list; it has no spare room.
func TestAnswersAreNewMemory(t *testing.T) {
	s := noise(23)
	for n := range 100 {
		lines := plainRows()
		if n%20 == 0 {
			lines = rows()
		}
		elems := [2]int{1 + s.below(3), 1 + s.below(3)}
		ops, in := s.program(1+s.below(20), elems, lines), s.inputs(elems)
		have := s.dealt(micro.Need(ops), 0)
		w, _, _, _ := run(ops, in, have)
		another, _, _, _ := run(ops, in, have)
		rounds, anotherRounds := micro.Rounds(ops), micro.Rounds(ops)
		shares := slices.Clone(w[0])
		outs, anotherOuts := micro.Outs(ops, shares), micro.Outs(ops, shares)
		wantShares, _ := sharesOf(ops, in, [2]*stuff{have[0].clone(), have[1].clone()})
		wantRounds, wantOuts := roundsOf(ops), outsOf(ops, wantShares[0])
		for _, l := range [][]uint64{w[0], w[1], outs} {
			if cap(l) != len(l) {
				t.Fatalf("a list has spare room: %d, %d", len(l), cap(l))
			}
		}
		if cap(rounds) != len(rounds) {
			t.Fatalf("the rounds have spare room: %d, %d", len(rounds), cap(rounds))
		}
		for _, l := range [][]uint64{in[0], in[1], shares, another[0], another[1], anotherOuts} {
			spoil(l, 77)
		}
		spoil(anotherRounds, -1)
		spoil(ops, api.Op{Kind: 77})
		if !slices.Equal(rounds, wantRounds) || !slices.Equal(outs, wantOuts) || !slices.Equal(w[0], wantShares[0]) || !slices.Equal(w[1], wantShares[1]) {
			t.Fatal("an answer shares memory with another one, or with what was handed in")
		}
		spoil(w[0], 77)
		if !slices.Equal(w[1], wantShares[1]) {
			t.Fatal("an answer's two lists share memory")
		}
	}
}

// weakList holds a list's memory without keeping it.
type weakList[T any] struct{ p weak.Pointer[T] }

func weakly[T any](l []T) weakList[T] { return weakList[T]{weak.Make(unsafe.SliceData(l))} }

func (l weakList[T]) gone() bool { return l.p.Value() == nil }

// What is handed in isn't kept.
func TestWhatIsHandedInIsLetGo(t *testing.T) {
	s := noise(24)
	elems := [2]int{30, 30}
	ops, in := s.program(40, elems, rows()), s.inputs(elems)
	have := s.dealt(micro.Need(ops), 0)
	shares := s.words(len(ops))
	kept := []interface{ gone() bool }{weakly(ops), weakly(in[0]), weakly(in[1]), weakly(shares)}
	w, _, _, err := run(ops, in, have)
	_, _, _, wrong := run(ops, [2][]uint64{in[0]}, have)
	rounds, need, outs := micro.Rounds(ops), micro.Need(ops), micro.Outs(ops, shares)
	ops, in, shares = nil, [2][]uint64{}, nil
	for range 5 {
		runtime.GC()
	}
	for i, list := range kept {
		if !list.gone() {
			t.Errorf("the list %d that was handed in is kept", i)
		}
	}
	if err != nil || fault.Code(wrong) != api.ErrMicro || len(rounds) != 40 || len(w[0]) != 40 || need.Rounds == 0 || cap(outs) > 40 {
		t.Errorf("%v, %v", err, wrong)
	}
}

// The same call answers the same, whatever was called between.
func TestCallsAreAlike(t *testing.T) {
	s := noise(25)
	elems := [2]int{2, 2}
	ops, in := s.program(20, elems, rows()), s.inputs(elems)
	have := s.dealt(micro.Need(ops), 1)
	for range 5 {
		checkSim(t, ops, in, have)
		checkProgram(t, ops, elems)
		other := s.program(20, elems, rows())
		checkProgram(t, other, elems)
		checkSim(t, other, in, s.undealt(micro.Need(other)))
		run(ops, [2][]uint64{}, have)
	}
}

// The numbers are found by errors.Is and errors.As as well.
func TestErrorsAreWrapped(t *testing.T) {
	in := []api.Op{{Kind: api.OpIn}}
	full, none := &stuff{words: []uint64{1}}, &stuff{}
	_, _, _, noProgram := run([]api.Op{{}}, [2][]uint64{}, [2]*stuff{none, none})
	_, inputs := micro.Sim(nil, [2]int{1, 0}, [2][]uint64{}, [2]*tape.Tape{full.tape(), none.tape()}, [2]*corr.Stock{none.stock(), none.stock()})
	_, _, _, words := run(in, [2][]uint64{{1}, nil}, [2]*stuff{none, none})
	_, _, _, delta := run([]api.Op{{Kind: api.OpConst}, {Kind: api.OpGarb, K: 1}}, [2][]uint64{}, [2]*stuff{full, none})
	_, _, _, stock := run([]api.Op{{Kind: api.OpConst}, {Kind: api.OpMul}}, [2][]uint64{}, [2]*stuff{full, none})
	for i, x := range []struct {
		err  error
		want api.Errno
	}{
		{micro.Check([]api.Op{{}}, [2]int{}), api.ErrMicro}, {micro.Check(nil, [2]int{-1, 0}), api.ErrMicro}, {micro.Check([]api.Op{{Kind: api.OpConst}, {Kind: api.OpOut, K: 1}}, [2]int{}), api.ErrMicro},
		{noProgram, api.ErrMicro}, {inputs, api.ErrInput}, {words, api.ErrTape}, {delta, api.ErrTape}, {stock, api.ErrStock},
	} {
		var code api.Errno
		if !errors.Is(x.err, x.want) || !errors.As(x.err, &code) || code != x.want || fault.Code(x.err) != x.want {
			t.Errorf("%d: %v isn't %d", i, x.err, x.want)
		}
	}
}

// taken: operations, or what is none, out of bytes.
func taken(b []byte) []api.Op {
	var ops []api.Op
	for ; len(b) >= 5 && len(ops) < 40; b = b[5:] {
		ops = append(ops, api.Op{Kind: api.OpKind(b[0] % 21), A: int(int8(b[1])), B: int(int8(b[2])), K: int(int8(b[3])), C: uint64(b[4] >> 1), Party: int(b[4] & 1)})
	}
	return ops
}

// FuzzProgram takes a list of operations, and how much there is to draw, out of the bytes.
func FuzzProgram(f *testing.F) {
	f.Add([]byte{1, 0, 0, 0, 0, 1, 0, 0, 0, 1, 6, 0, 1, 0, 0, 18, 2, 0, 0, 0}, 1, 1, uint64(1), false)
	f.Add([]byte{2, 0, 0, 0, 8, 17, 0, 0, 2, 0, 19, 1, 0, 0, 0}, 0, 0, uint64(2), true)
	f.Add([]byte{2, 0, 0, 0, 8, 9, 0, 0, 0, 0, 16, 1, 0, 63, 1}, 3, -1, uint64(3), false)
	f.Fuzz(func(t *testing.T, b []byte, n, m int, seed uint64, lacks bool) {
		ops, elems, s := taken(b), [2]int{n, m}, noise(seed)
		checkEither(t, ops, elems)
		if !isProgram(ops, elems) || n > 100 || m > 100 {
			return
		}
		in := s.inputs(elems)
		have := s.dealt(micro.Need(ops), 0)
		for lacks && s.below(3) > 0 {
			shorten(have, s.below(8))
		}
		if w := checkSim(t, ops, in, have); w[0] != nil {
			checkTogether(t, ops, in, w)
		}
	})
}

func BenchmarkSimGarb(b *testing.B) {
	s := noise(26)
	ops := []api.Op{{Kind: api.OpConst}, {Kind: api.OpGarb, K: api.GarbMax}}
	have := s.dealt(micro.Need(ops), 0)
	for b.Loop() {
		run(ops, [2][]uint64{}, have)
	}
}
