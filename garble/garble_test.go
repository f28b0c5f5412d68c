package garble_test

import (
	lib "crypto/aes"
	"errors"
	"fmt"
	"math"
	"math/big"
	"runtime"
	"slices"
	"strconv"
	"testing"
	"unsafe"
	"weak"

	"twain/api"
	"twain/circ"
	"twain/corr"
	"twain/fault"
	"twain/garble"
	"twain/tape"
)

const (
	// most is the greatest number of inputs, and of gates, of a circuit.
	most = 4096
	// picked is how many labels are transferred at a time.
	picked = 64
)

// noise tells the same words in each run.
type noise uint64

func (s *noise) word() uint64 {
	*s += 0x9e3779b97f4a7c15
	x := uint64(*s)
	x = (x ^ x>>30) * 0xbf58476d1ce4e5b9
	x = (x ^ x>>27) * 0x94d049bb133111eb
	return x ^ x>>31
}

// below: a number from 0 to n - 1.
func (s *noise) below(n int) int { return int(s.word() % uint64(n)) }

func (s *noise) bits(n int) []bool {
	l := make([]bool, n)
	for i := range l {
		l[i] = s.below(2) == 1
	}
	return l
}

func (s *noise) label() api.Label { return api.Label{s.word(), s.word()} }

// delta: a label of the colour 1.
func (s *noise) delta() api.Label {
	l := s.label()
	l[0] |= 1
	return l
}

func (s *noise) labels(n int) []api.Label {
	l := make([]api.Label, n)
	for i := range l {
		l[i] = s.label()
	}
	return l
}

func (s *noise) ots(n int) []api.OT {
	l := make([]api.OT, n)
	for i := range l {
		l[i] = api.OT{R: [2]api.Label{s.label(), s.label()}, Choice: s.below(2) == 1}
	}
	return l
}

// circuit: one of so many inputs, gates and outs.
func (s *noise) circuit(inputs, gates, outs int) circ.Circuit {
	c := circ.Circuit{Inputs: inputs}
	for i := range gates {
		g := circ.Gate{Kind: circ.GateKind(1 + s.below(3)), A: s.below(inputs + i)}
		if g.Kind != circ.Not {
			g.B = s.below(inputs + i)
		}
		c.Gates = append(c.Gates, g)
	}
	for range outs {
		c.Outs = append(c.Outs, s.below(inputs+gates))
	}
	return c
}

// firsts: tweaks to begin with, those too from which on the next ones go round.
func firsts() []uint64 {
	return []uint64{
		0, 1, 2, 3, 1 << 32, 1<<32 - 1, 1<<63 - 1, 1 << 63, math.MaxUint64 - 5, math.MaxUint64 - 4, math.MaxUint64 - 3, math.MaxUint64 - 2, math.MaxUint64 - 1, math.MaxUint64,
	}
}

// deltas: labels of the colour 1.
func deltas() []api.Label {
	return []api.Label{
		{1, 0}, {1, 1}, {3, 0}, {1<<63 + 1, 0}, {1, 1 << 63}, {math.MaxUint64, math.MaxUint64}, {math.MaxUint64, 0}, {1, math.MaxUint64}, {0x0123456789abcdef, 0xfedcba9876543210},
	}
}

// uncoloured: labels of the colour 0.
func uncoloured() []api.Label {
	return []api.Label{{0, 0}, {2, 0}, {0, 1}, {2, 1}, {0, math.MaxUint64}, {math.MaxUint64 - 1, math.MaxUint64}, {1 << 63, 1 << 63}, {1 << 32, 1}, {256, 257}}
}

// The chapter's words once more, with labels as great numbers: the first word the low one.

func number(l api.Label) *big.Int {
	n := new(big.Int).SetUint64(l[1])
	return n.Lsh(n, 64).Or(n, new(big.Int).SetUint64(l[0]))
}

func labelOf(n *big.Int) api.Label {
	low := new(big.Int).SetUint64(math.MaxUint64)
	return api.Label{low.And(low, n).Uint64(), new(big.Int).Rsh(n, 64).Uint64()}
}

// plus: the exclusive or of all.
func plus(l ...api.Label) api.Label {
	sum := new(big.Int)
	for _, x := range l {
		sum.Xor(sum, number(x))
	}
	return labelOf(sum)
}

// when: the label, if the other one's lowest bit is 1, else nothing.
func when(colour, l api.Label) api.Label {
	if number(colour).Bit(0) == 1 {
		return l
	}
	return api.Label{}
}

// hashed: H(l, t), by the library's cipher.
func hashed(l api.Label, t uint64) api.Label {
	n := number(l)
	n.Lsh(n, 1)
	if n.Bit(128) == 1 {
		n.SetBit(n, 128, 0).Xor(n, big.NewInt(135))
	}
	n.Xor(n, new(big.Int).SetUint64(t))
	key := make([]byte, 16)
	for i := range key {
		key[i] = byte(i)
	}
	c, err := lib.NewCipher(key)
	if err != nil {
		panic(err)
	}
	block := n.FillBytes(make([]byte, 16))
	slices.Reverse(block)
	c.Encrypt(block, block)
	slices.Reverse(block)
	return labelOf(n.Xor(n, new(big.Int).SetBytes(block)))
}

// garbled: the tables, and the zero labels of the outs, by the chapter's words, line by line.
func garbled(c circ.Circuit, delta api.Label, zeros []api.Label, first uint64) (tables, outs []api.Label) {
	wires := slices.Clone(zeros)
	k := uint64(0)
	for _, gate := range c.Gates {
		a, b := wires[gate.A], wires[gate.B]
		switch gate.Kind {
		case circ.Xor:
			wires = append(wires, plus(a, b))
		case circ.Not:
			wires = append(wires, plus(a, delta))
		case circ.And:
			s := first + 2*k
			t := s + 1
			g := plus(hashed(a, s), hashed(plus(a, delta), s), when(b, delta))
			e := plus(hashed(b, t), hashed(plus(b, delta), t), a)
			tables = append(tables, g, e)
			wires = append(wires, plus(hashed(a, s), when(a, g), hashed(b, t), when(b, plus(e, a))))
			k++
		}
	}
	for _, w := range c.Outs {
		outs = append(outs, wires[w])
	}
	return tables, outs
}

// evaluated: the labels of the outs, by the chapter's words, line by line.
func evaluated(c circ.Circuit, labels, tables []api.Label, first uint64) (outs []api.Label) {
	wires := slices.Clone(labels)
	k := uint64(0)
	for _, gate := range c.Gates {
		x, y := wires[gate.A], wires[gate.B]
		switch gate.Kind {
		case circ.Xor:
			wires = append(wires, plus(x, y))
		case circ.Not:
			wires = append(wires, x)
		case circ.And:
			s := first + 2*k
			t := s + 1
			g, e := tables[2*k], tables[2*k+1]
			wires = append(wires, plus(hashed(x, s), when(x, g), hashed(y, t), when(y, plus(e, x))))
			k++
		}
	}
	for _, w := range c.Outs {
		outs = append(outs, wires[w])
	}
	return outs
}

// labelled: a label of each bit.
func labelled(zeros []api.Label, delta api.Label, bits []bool) []api.Label {
	l := slices.Clone(zeros)
	for i, bit := range bits {
		if bit {
			l[i] = plus(l[i], delta)
		}
	}
	return l
}

// checkGarble: Garble answers by the words.
func checkGarble(t *testing.T, c circ.Circuit, delta api.Label, zeros []api.Label, first uint64) (tables, outs []api.Label) {
	t.Helper()
	tables, outs, err := garble.Garble(c, delta, zeros, first)
	wantTables, wantOuts := garbled(c, delta, zeros, first)
	if err != nil || !slices.Equal(tables, wantTables) || !slices.Equal(outs, wantOuts) {
		t.Fatalf("Garble(%v, %#x, %#x, %d): %#x, %#x, %v, want %#x, %#x", c, delta, zeros, first, tables, outs, err, wantTables, wantOuts)
	}
	return tables, outs
}

// checkEval: Eval answers by the words.
func checkEval(t *testing.T, c circ.Circuit, labels, tables []api.Label, first uint64) {
	t.Helper()
	got, err := garble.Eval(c, labels, tables, first)
	if want := evaluated(c, labels, tables, first); err != nil || !slices.Equal(got, want) {
		t.Fatalf("Eval(%v, %#x, %#x, %d): %#x, %v, want %#x", c, labels, tables, first, got, err, want)
	}
}

// checkBits: what is evaluated of labels of the bits is the labels of the outs' bits.
func checkBits(t *testing.T, c circ.Circuit, delta api.Label, zeros []api.Label, first uint64, bits []bool) {
	t.Helper()
	tables, outs, err := garble.Garble(c, delta, zeros, first)
	if err != nil {
		t.Fatalf("Garble: %v", err)
	}
	got, err := garble.Eval(c, labelled(zeros, delta, bits), tables, first)
	want, wrong := circ.Eval(c, bits)
	if err != nil || wrong != nil || !slices.Equal(got, labelled(outs, delta, want)) {
		t.Fatalf("%v, delta %#x, zeros %#x, first %d, bits %v: %#x, %v, want the labels of %v", c, delta, zeros, first, bits, got, err, want)
	}
}

// one: a circuit of one gate of two inputs, all wires told.
func one(kind circ.GateKind, a, b int) circ.Circuit {
	return circ.Circuit{Inputs: 2, Gates: []circ.Gate{{Kind: kind, A: a, B: b}}, Outs: []int{2, 1, 0}}
}

func TestExamples(t *testing.T) {
	c := circ.Circuit{Inputs: 2, Gates: []circ.Gate{{Kind: circ.And, A: 0, B: 1}}, Outs: []int{2}}
	delta := api.Label{1, 0}
	tables, outs, err := garble.Garble(c, delta, make([]api.Label, 2), 0)
	if err != nil || len(tables) != 2 || len(outs) != 1 {
		t.Fatalf("Garble: %v, %v, %v", tables, outs, err)
	}
	got, err := garble.Eval(c, []api.Label{{1, 0}, {1, 0}}, tables, 0)
	if want := (api.Label{outs[0][0] ^ 1, outs[0][1]}); err != nil || !slices.Equal(got, []api.Label{want}) {
		t.Errorf("Eval: %v, %v, want %v", got, err, want)
	}
	tables, outs, err = garble.Garble(c, api.Label{2, 0}, make([]api.Label, 2), 0)
	if fault.Code(err) != api.ErrGarble || tables != nil || outs != nil {
		t.Errorf("Garble of delta {2, 0}: %v, %v, %v", tables, outs, err)
	}
}

// Tables and labels written out: worked out by the chapter's words apart from this program.
func TestOneAndWrittenOut(t *testing.T) {
	for _, x := range []struct {
		a, b, delta api.Label
		first       uint64
		g, e, zero  api.Label
	}{
		{api.Label{0, 0}, api.Label{0, 0}, api.Label{1, 0}, 0,
			api.Label{0x2fc754222cd82b3f, 0x5fab1c83e5cc79f8}, api.Label{0x5f2f6352774ac46d, 0x70aa4975d5decd0b}, api.Label{0x22dcf35a54e8dd24, 0xfb4428c15c8fb0f5}},
		{api.Label{1, 0}, api.Label{2, 0}, api.Label{1, 0}, 0,
			api.Label{0x2fc754222cd82b3f, 0x5fab1c83e5cc79f8}, api.Label{0xd0b0b2218a04c971, 0xe2c660ac06b5e8c9}, api.Label{0x9e95dd4c5bfc3cbb, 0x772eb294a98ff652}},
		{api.Label{4, 5}, api.Label{7, 8}, api.Label{0x1234567, 99}, 10,
			api.Label{0xffa639df721ad632, 0x118a7cf62c1c1bcd}, api.Label{0x644af77a78d574c3, 0x5527be640ee8b42f}, api.Label{0x19a1f6bd412ec84d, 0xdddc641734e26936}},
		{api.Label{0xfedcba9876543211, 1 << 63}, api.Label{0x123456789abcdef, 3}, api.Label{math.MaxUint64, math.MaxUint64}, math.MaxUint64,
			api.Label{0x0da564540e7ba2d0, 0xa7b2a7a237f0a45b}, api.Label{0xd60067cf8af82c3f, 0x1a9eb06eee95e084}, api.Label{0x48b0b4042d782354, 0x56573665fd7847f4}},
		{api.Label{3, 4}, api.Label{5, 6}, api.Label{1<<63 + 1, 1}, math.MaxUint64 - 1,
			api.Label{0x43c354c0c48f9f85, 0xb6825efdb9f502d2}, api.Label{0x1b9009499838a78f, 0x86e348a445bde7c4}, api.Label{0x1e6448dbaaf26fc6, 0xfa4cc499c81fdcb1}},
	} {
		c := circ.Circuit{Inputs: 2, Gates: []circ.Gate{{Kind: circ.And, A: 0, B: 1}}, Outs: []int{2}}
		tables, outs, err := garble.Garble(c, x.delta, []api.Label{x.a, x.b}, x.first)
		if err != nil || !slices.Equal(tables, []api.Label{x.g, x.e}) || !slices.Equal(outs, []api.Label{x.zero}) {
			t.Errorf("%#x: tables %#x, outs %#x, %v", x, tables, outs, err)
		}
		for n := range 4 {
			labels := labelled([]api.Label{x.a, x.b}, x.delta, []bool{n&1 == 1, n>>1 == 1})
			want := labelled([]api.Label{x.zero}, x.delta, []bool{n == 3})
			if got, err := garble.Eval(c, labels, []api.Label{x.g, x.e}, x.first); err != nil || !slices.Equal(got, want) {
				t.Errorf("%#x: Eval of the bits of %d: %#x, %v, want %#x", x, n, got, err, want)
			}
		}
	}
}

// Two Ands, the second one of one wire with itself: each has its own tweaks, which go round.
func TestTwoAndsWrittenOut(t *testing.T) {
	c := circ.Circuit{Inputs: 2, Gates: []circ.Gate{{Kind: circ.And, A: 0, B: 1}, {Kind: circ.And, A: 2, B: 2}}, Outs: []int{2, 3}}
	zeros := []api.Label{{4, 5}, {7, 8}}
	for _, x := range []struct {
		first        uint64
		tables, outs []api.Label
	}{
		{math.MaxUint64, []api.Label{
			{0x7ebb7d1277ccc477, 0x43b1cf2108640174}, {0x4a00ba4812591d24, 0x4cbc716787f922aa}, {0xbfa5778e3d83064f, 0xfdb7b816641531f9}, {0xb52e40e09283e9bc, 0xdd6a67c03a418f7},
		}, []api.Label{{0xbe83ebc57635814a, 0xb142c6442d69ff95}, {0x1c36ed0e502d9055, 0xccff20dcd6628d}}},
		{math.MaxUint64 - 1, []api.Label{
			{0x22eb89f358530670, 0x4ffb547fc331f992}, {0xf0645c3d2d6f4f1, 0x7accdddb39eef6e0}, {0xc33432b85369869f, 0xe801fb0a11cbff8a}, {0x457a901d69212396, 0xb30f9ff6096b0a40},
		}, []api.Label{{0x1d61dd11c11e0e2a, 0x242ac02ba89724b9}, {0x665e7ac7fe57711d, 0xbdf11de9f64661ea}}},
		{math.MaxUint64 - 2, []api.Label{
			{0xaff1798f35f2229a, 0x38601804c497ed18}, {0x1b35563ef20659cf, 0x70430b46dbceed44}, {0xcd604fb5ed689626, 0xe19c4ba837d34cfe}, {0x93cea9bcb662a1d8, 0x2cf047673665a892},
		}, []api.Label{{0xba8fa69c094229b, 0x1468b838334905b}, {0x6811366dec2231d2, 0xf784c1a2905e43cc}}},
		{5, []api.Label{
			{0x8ff21c301c674825, 0x39bdf77c527c24ac}, {0xd9e9b732b7361e34, 0xebf0f16eba70eb25}, {0x4d78c183531f13b0, 0x4f1347cd80dd79e}, {0xf095ea9399ee19d, 0x48e22f615d2334c0},
		}, []api.Label{{0xc18f28c6657e665a, 0xcd415c5d270c919b}, {0x9d1dd02f9bda9d4b, 0x122af34a26519623}}},
	} {
		tables, outs, err := garble.Garble(c, api.Label{0x1234567, 99}, zeros, x.first)
		if err != nil || !slices.Equal(tables, x.tables) || !slices.Equal(outs, x.outs) {
			t.Errorf("first %d: tables %#x, outs %#x, %v", x.first, tables, outs, err)
		}
	}
}

// Gates that need no tables, written out.
func TestXorAndNotWrittenOut(t *testing.T) {
	c := circ.Circuit{Inputs: 2, Gates: []circ.Gate{{Kind: circ.Xor, A: 0, B: 1}, {Kind: circ.Not, A: 1}, {Kind: circ.Xor, A: 0, B: 0}, {Kind: circ.Not, A: 4}}, Outs: []int{2, 3, 4, 5, 0}}
	zeros, delta := []api.Label{{12, 3}, {10, 5}}, api.Label{1, 16}
	tables, outs, err := garble.Garble(c, delta, zeros, 7)
	if want := []api.Label{{6, 6}, {11, 21}, {0, 0}, {1, 16}, {12, 3}}; err != nil || len(tables) != 0 || !slices.Equal(outs, want) {
		t.Errorf("Garble: %v, %v, %v, want %v", tables, outs, err, want)
	}
	got, err := garble.Eval(c, []api.Label{{13, 19}, {10, 5}}, nil, 7)
	if want := []api.Label{{7, 22}, {10, 5}, {0, 0}, {0, 0}, {13, 19}}; err != nil || !slices.Equal(got, want) {
		t.Errorf("Eval: %v, %v, want %v", got, err, want)
	}
}

// An And's wires with labels of each two colours, each delta and each first tweak of the edges.
func TestColoursAtAnAnd(t *testing.T) {
	s := noise(1)
	for _, c := range []circ.Circuit{one(circ.And, 0, 1), one(circ.And, 1, 0), one(circ.And, 1, 1), one(circ.Xor, 0, 1), one(circ.Xor, 1, 1), one(circ.Not, 1, 0)} {
		for _, delta := range deltas() {
			for _, first := range firsts() {
				zeros := s.labels(2)
				for colours := range uint64(4) {
					zeros[0][0] = zeros[0][0]&^1 | colours&1
					zeros[1][0] = zeros[1][0]&^1 | colours>>1
					tables, _ := checkGarble(t, c, delta, zeros, first)
					for n := range 4 {
						bits := []bool{n&1 == 1, n>>1 == 1}
						checkEval(t, c, labelled(zeros, delta, bits), tables, first)
						checkBits(t, c, delta, zeros, first, bits)
					}
				}
			}
		}
	}
}

// Labels with few bits, and the same at both wires.
func TestLabelsThatAreAlike(t *testing.T) {
	few := []api.Label{{0, 0}, {1, 0}, {0, 1}, {1, 1}, {2, 0}, {0, 1 << 63}, {1, 1 << 63}, {math.MaxUint64, math.MaxUint64}, {math.MaxUint64 - 1, math.MaxUint64}}
	for _, a := range few {
		for _, b := range few {
			for _, delta := range deltas()[:5] {
				c := one(circ.And, 0, 1)
				tables, _ := checkGarble(t, c, delta, []api.Label{a, b}, 3)
				for n := range 4 {
					checkEval(t, c, labelled([]api.Label{a, b}, delta, []bool{n&1 == 1, n>>1 == 1}), tables, 3)
				}
			}
		}
	}
}

// small: all gates that the wire may have.
func small(wire int) []circ.Gate {
	var l []circ.Gate
	for a := range wire {
		l = append(l, circ.Gate{Kind: circ.Not, A: a})
		for b := range wire {
			l = append(l, circ.Gate{Kind: circ.Xor, A: a, B: b}, circ.Gate{Kind: circ.And, A: a, B: b})
		}
	}
	return l
}

func TestEverySmallCircuit(t *testing.T) {
	s := noise(2)
	for _, g := range small(2) {
		for _, h := range small(3) {
			c := circ.Circuit{Inputs: 2, Gates: []circ.Gate{g, h}, Outs: []int{3, 2, 1, 0}}
			first := firsts()[s.below(len(firsts()))]
			checkGarble(t, c, s.delta(), s.labels(2), first)
			for _, i := range small(4) {
				c := circ.Circuit{Inputs: 2, Gates: []circ.Gate{g, h, i}, Outs: []int{4, 3}}
				delta, zeros := s.delta(), s.labels(2)
				for number := range 4 {
					checkBits(t, c, delta, zeros, first, []bool{number&1 == 1, number>>1 == 1})
				}
			}
		}
	}
}

func TestAnyCircuit(t *testing.T) {
	s := noise(3)
	for range 150 {
		inputs := 1 + s.below(20)
		c := s.circuit(inputs, s.below(60), s.below(65))
		delta, zeros, first := s.delta(), s.labels(inputs), s.word()
		if s.below(2) == 0 {
			first = uint64(-s.below(40))
		}
		tables, _ := checkGarble(t, c, delta, zeros, first)
		bits := s.bits(inputs)
		checkEval(t, c, labelled(zeros, delta, bits), tables, first)
		checkBits(t, c, delta, zeros, first, bits)
		// What is no label of a bit, and tables that nobody made, are evaluated all the same.
		checkEval(t, c, s.labels(inputs), s.labels(2*circ.Ands(c)), s.word())
		checkEval(t, c, labelled(zeros, delta, bits), tables, first+1)
	}
}

// As many inputs, gates and outs as may be, and each gate of the one ahead of it.
func TestGreatCircuits(t *testing.T) {
	s := noise(4)
	chain := circ.Circuit{Inputs: 1, Outs: []int{most, most - 1, 1, 0}}
	for i := range most {
		chain.Gates = append(chain.Gates, circ.Gate{Kind: circ.And, A: i, B: i})
	}
	wide := s.circuit(most, most, 64)
	for _, c := range []circ.Circuit{chain, wide} {
		delta, zeros, first := s.delta(), s.labels(c.Inputs), uint64(math.MaxUint64-most)
		tables, _ := checkGarble(t, c, delta, zeros, first)
		checkBits(t, c, delta, zeros, first, s.bits(c.Inputs))
		checkEval(t, c, s.labels(c.Inputs), tables, 0)
	}
}

func TestNothing(t *testing.T) {
	for _, c := range []circ.Circuit{{}, {Gates: []circ.Gate{}, Outs: []int{}}} {
		for _, none := range [][]api.Label{nil, {}} {
			tables, outs, err := garble.Garble(c, api.Label{1, 0}, none, 0)
			if err != nil || len(tables) != 0 || len(outs) != 0 {
				t.Errorf("Garble of nothing: %v, %v, %v", tables, outs, err)
			}
			if l, err := garble.Eval(c, none, none, 0); err != nil || len(l) != 0 {
				t.Errorf("Eval of nothing: %v, %v", l, err)
			}
		}
	}
	s := noise(5)
	// No gates: the outs are inputs; one may be told twice.
	c := circ.Circuit{Inputs: 3, Outs: []int{2, 0, 2}}
	checkGarble(t, c, s.delta(), s.labels(3), 9)
	checkEval(t, c, s.labels(3), nil, 9)
	// No outs: there are tables all the same.
	c = circ.Circuit{Inputs: 1, Gates: []circ.Gate{{Kind: circ.And}, {Kind: circ.Not}, {Kind: circ.And, A: 2}}}
	tables, outs := checkGarble(t, c, s.delta(), s.labels(1), 9)
	if len(tables) != 4 || len(outs) != 0 {
		t.Errorf("without outs: %v, %v", tables, outs)
	}
	checkEval(t, c, s.labels(1), tables, 9)
}

// none: circuits that are none.
func none() []circ.Circuit {
	return []circ.Circuit{
		{Inputs: -1}, {Inputs: most + 1}, {Inputs: math.MinInt}, {Inputs: math.MaxInt},
		{Outs: []int{0}}, {Inputs: 2, Outs: []int{2}}, {Inputs: 2, Outs: []int{-1}}, {Inputs: 2, Outs: make([]int, 65)},
		{Inputs: 2, Gates: []circ.Gate{{}}}, {Inputs: 2, Gates: []circ.Gate{{Kind: 4}}}, {Inputs: 2, Gates: []circ.Gate{{Kind: -1}}},
		{Inputs: 2, Gates: []circ.Gate{{Kind: circ.And, A: 2}}}, {Inputs: 2, Gates: []circ.Gate{{Kind: circ.And, B: 2}}}, {Inputs: 2, Gates: []circ.Gate{{Kind: circ.Xor, A: -1}}},
		{Inputs: 2, Gates: []circ.Gate{{Kind: circ.Not, A: 1, B: 1}}}, {Gates: []circ.Gate{{Kind: circ.And}}},
		{Inputs: 2, Gates: slices.Repeat([]circ.Gate{{Kind: circ.And}}, most+1)},
	}
}

// checkGarbleRefused, checkEvalRefused: this error, and nothing beside it.

func checkGarbleRefused(t *testing.T, c circ.Circuit, delta api.Label, zeros []api.Label, want api.Errno) {
	t.Helper()
	for _, first := range []uint64{0, 1, math.MaxUint64} {
		if tables, outs, err := garble.Garble(c, delta, zeros, first); fault.Code(err) != want || tables != nil || outs != nil {
			t.Errorf("Garble(%v, %v, %d labels, %d): %v, %v, %v, want %d", c, delta, len(zeros), first, tables, outs, err, want)
		}
	}
}

func checkEvalRefused(t *testing.T, c circ.Circuit, labels, tables []api.Label, want api.Errno) {
	t.Helper()
	for _, first := range []uint64{0, 1, math.MaxUint64} {
		if l, err := garble.Eval(c, labels, tables, first); fault.Code(err) != want || l != nil {
			t.Errorf("Eval(%v, %d labels, %d tables, %d): %v, %v, want %d", c, len(labels), len(tables), first, l, err, want)
		}
	}
}

// What is no circuit is told ahead of all else, whatever else is wrong.
func TestNoCircuit(t *testing.T) {
	for _, c := range none() {
		for _, n := range []int{0, 1, 2, 3} {
			labels := make([]api.Label, n)
			for _, delta := range []api.Label{{1, 0}, {0, 1}} {
				checkGarbleRefused(t, c, delta, labels, api.ErrCircuit)
			}
			for _, m := range []int{0, 1, 2, 3} {
				checkEvalRefused(t, c, labels, make([]api.Label, m), api.ErrCircuit)
			}
		}
	}
}

// One label too few or too many is told ahead of delta's colour, and of the tables' number.
func TestLabelsThatAreHandedIn(t *testing.T) {
	s := noise(6)
	for _, inputs := range []int{0, 1, 2, 5, 64, most} {
		c := circ.Circuit{Inputs: inputs}
		if inputs > 0 {
			c = s.circuit(inputs, 6, 4)
		}
		tables := 2 * circ.Ands(c)
		for _, n := range []int{0, 1, 2, 3, 4, 5, 6, 7, 11, 63, 64, 65, most - 1, most, most + 1} {
			labels := s.labels(n)
			if n == inputs {
				checkGarble(t, c, s.delta(), labels, 0)
				checkEval(t, c, labels, s.labels(tables), 0)
				continue
			}
			for _, delta := range append(uncoloured()[:3], s.delta()) {
				checkGarbleRefused(t, c, delta, labels, api.ErrRange)
			}
			for _, m := range []int{0, tables, tables + 1} {
				checkEvalRefused(t, c, labels, s.labels(m), api.ErrRange)
			}
		}
	}
}

func TestColourOfDelta(t *testing.T) {
	s := noise(7)
	for _, c := range []circ.Circuit{{}, {Inputs: 2}, one(circ.And, 0, 1), one(circ.Xor, 0, 1), one(circ.Not, 0, 0)} {
		zeros := s.labels(c.Inputs)
		for _, delta := range uncoloured() {
			checkGarbleRefused(t, c, delta, zeros, api.ErrGarble)
		}
		for _, delta := range deltas() {
			checkGarble(t, c, delta, zeros, 0)
		}
	}
	// Each bit alone: just the lowest of the first word is the colour.
	for i := range 128 {
		var delta api.Label
		delta[i/64] = 1 << (i % 64)
		if i == 0 {
			checkGarble(t, one(circ.And, 0, 1), delta, s.labels(2), 0)
		} else {
			checkGarbleRefused(t, one(circ.And, 0, 1), delta, s.labels(2), api.ErrGarble)
		}
	}
}

func TestNumberOfTables(t *testing.T) {
	s := noise(8)
	and, xor := circ.Gate{Kind: circ.And}, circ.Gate{Kind: circ.Xor}
	for _, x := range []struct {
		gates []circ.Gate
		want  int
	}{{nil, 0}, {[]circ.Gate{xor}, 0}, {[]circ.Gate{and}, 2}, {[]circ.Gate{xor, and, xor}, 2}, {[]circ.Gate{and, and}, 4}, {[]circ.Gate{and, xor, and, and}, 6}, {slices.Repeat([]circ.Gate{and}, most), 2 * most}} {
		c := circ.Circuit{Inputs: 1, Gates: x.gates, Outs: []int{0}}
		for _, n := range []int{0, 1, 2, 3, 4, 5, 6, 7, 8, most, 2*most - 2, 2*most - 1, 2 * most, 2*most + 1, 2*most + 2} {
			if n == x.want {
				checkEval(t, c, s.labels(1), s.labels(n), 0)
			} else {
				checkEvalRefused(t, c, s.labels(1), s.labels(n), api.ErrGarble)
			}
		}
	}
}

func TestLabel(t *testing.T) {
	s := noise(9)
	l := append(deltas(), uncoloured()...)
	l = append(l, s.labels(10)...)
	for _, zero := range l {
		for _, delta := range l {
			if got := garble.Label(zero, delta, false); got != zero {
				t.Errorf("Label(%#x, %#x, false): %#x", zero, delta, got)
			}
			want := api.Label{zero[0] ^ delta[0], zero[1] ^ delta[1]}
			if got := garble.Label(zero, delta, true); got != want {
				t.Errorf("Label(%#x, %#x, true): %#x, want %#x", zero, delta, got, want)
			}
		}
	}
}

func TestColours(t *testing.T) {
	s := noise(10)
	if garble.Colours(nil) != 0 || garble.Colours([]api.Label{}) != 0 {
		t.Error("no labels have colours")
	}
	for n := range 200 {
		l, want := s.labels(n), uint64(0)
		for i := range l {
			if i < 64 && l[i][0]%2 == 1 {
				want += 1 << i
			}
		}
		if got := garble.Colours(l); got != want {
			t.Errorf("Colours of %d labels: %b, want %b", n, got, want)
		}
	}
	for _, n := range []int{1, 2, 63, 64, 65, 128, 1000} {
		for i := range n {
			l := slices.Repeat([]api.Label{{math.MaxUint64 - 1, math.MaxUint64}}, n)
			l[i] = api.Label{1, 0}
			if got, want := garble.Colours(l), uint64(1)<<i; got != want {
				t.Errorf("Colours of %d labels, that of %d 1: %b", n, i, got)
			}
		}
		all := slices.Repeat([]api.Label{{1, 0}}, n)
		if got, want := garble.Colours(all), uint64(math.MaxUint64)>>(64-min(n, 64)); got != want {
			t.Errorf("Colours of %d labels of the colour 1: %b", n, got)
		}
	}
}

// The colours of what is evaluated are those of the zero labels, turned by the bits: so both parties share the outs.
func TestColoursShareTheOuts(t *testing.T) {
	s := noise(11)
	for kind := api.GarbRelu; kind <= api.GarbMax; kind++ {
		for forms := range uint64(4) {
			c, err := circ.Make(kind, forms)
			if err != nil {
				continue
			}
			for range 3 {
				bits := s.bits(c.Inputs)
				zeros, delta, first := s.labels(c.Inputs), s.delta(), s.word()
				tables, outs, err := garble.Garble(c, delta, zeros, first)
				got, wrong := garble.Eval(c, labelled(zeros, delta, bits), tables, first)
				want, _ := circ.Eval(c, bits)
				if err != nil || wrong != nil || len(tables) != 2*circ.Ands(c) {
					t.Fatalf("kind %d, forms %d: %v, %v, %d tables", kind, forms, err, wrong, len(tables))
				}
				if garble.Colours(got)^garble.Colours(outs) != circ.Word(want) || !slices.Equal(got, labelled(outs, delta, want)) {
					t.Errorf("kind %d, forms %d: the outs aren't the labels of %x", kind, forms, circ.Word(want))
				}
			}
		}
	}
}

// A made circuit's tables and outs by the words, too.
func TestMadeCircuitByTheWords(t *testing.T) {
	s := noise(12)
	c, err := circ.Make(api.GarbMax, 1)
	if err != nil {
		t.Fatal(err)
	}
	delta, zeros, first := s.delta(), s.labels(c.Inputs), uint64(math.MaxUint64-100)
	tables, _ := checkGarble(t, c, delta, zeros, first)
	checkEval(t, c, labelled(zeros, delta, s.bits(c.Inputs)), tables, first)
}

// asked, replied, got: the transfer by the chapter's words.

func asked(ots []api.OT, x uint64) uint64 {
	n := new(big.Int).SetUint64(x)
	for i, ot := range ots {
		if ot.Choice {
			n.SetBit(n, i, 1-n.Bit(i))
		}
	}
	return n.Uint64()
}

func replied(ots []api.OT, ask uint64, zeros []api.Label, delta api.Label) []api.Label {
	var l []api.Label
	for i := range ots {
		r := ots[i].R
		if new(big.Int).SetUint64(ask).Bit(i) == 1 {
			r[0], r[1] = r[1], r[0]
		}
		l = append(l, plus(zeros[i], r[0]), plus(zeros[i], delta, r[1]))
	}
	return l
}

func got(ots []api.OT, x uint64, reply []api.Label) []api.Label {
	var l []api.Label
	for i := range ots {
		pair := reply[2*i : 2*i+2]
		l = append(l, plus(pair[new(big.Int).SetUint64(x).Bit(i)], ots[i].R[0]))
	}
	return l
}

// values: words with each bit alone, each bit lacking, and edges.
func values() []uint64 {
	l := []uint64{0, math.MaxUint64, 0xaaaaaaaaaaaaaaaa, 0x5555555555555555, 0x0123456789abcdef, 1<<32 - 1}
	for i := range 64 {
		l = append(l, 1<<i, ^(uint64(1) << i))
	}
	return l
}

// Each call of the transfer by the words, of OTs that fit and of those that don't.
func TestTransferByTheWords(t *testing.T) {
	s := noise(13)
	for _, x := range values() {
		ots, zeros, reply := s.ots(picked), s.labels(picked), s.labels(2*picked)
		for _, delta := range []api.Label{s.delta(), {0, 0}, {2, 1}} { // nothing is said of its colour here
			if l, err := garble.Reply(ots, x, zeros, delta); err != nil || !slices.Equal(l, replied(ots, x, zeros, delta)) {
				t.Fatalf("Reply of %x: %v, %v", x, l, err)
			}
		}
		if ask, err := garble.Ask(ots, x); err != nil || ask != asked(ots, x) {
			t.Fatalf("Ask of %x: %x, %v", x, ask, err)
		}
		if l, err := garble.Pick(ots, x, reply); err != nil || !slices.Equal(l, got(ots, x, reply)) {
			t.Fatalf("Pick of %x: %v, %v", x, l, err)
		}
	}
}

func TestTransferWrittenOut(t *testing.T) {
	sender, receiver, zeros := make([]api.OT, picked), make([]api.OT, picked), make([]api.Label, picked)
	sender[0].R = [2]api.Label{{16, 1}, {32, 2}}
	sender[1].R = [2]api.Label{{64, 3}, {128, 4}}
	sender[63].R = [2]api.Label{{256, 5}, {512, 6}}
	receiver[0] = api.OT{R: [2]api.Label{{32, 2}}, Choice: true}
	receiver[1] = api.OT{R: [2]api.Label{{64, 3}}}
	receiver[63] = api.OT{R: [2]api.Label{{512, 6}}, Choice: true}
	zeros[0], zeros[1], zeros[63] = api.Label{2, 0}, api.Label{4, 0}, api.Label{6, 0}
	x := uint64(1<<63 + 2)
	ask, err := garble.Ask(receiver, x)
	if err != nil || ask != 3 {
		t.Errorf("Ask: %x, %v", ask, err)
	}
	reply, err := garble.Reply(sender, ask, zeros, api.Label{1, 8})
	want := slices.Repeat([]api.Label{{0, 0}, {1, 8}}, picked)
	want[0], want[1] = api.Label{34, 2}, api.Label{19, 9}
	want[2], want[3] = api.Label{132, 4}, api.Label{69, 11}
	want[126], want[127] = api.Label{262, 5}, api.Label{519, 14}
	if err != nil || !slices.Equal(reply, want) {
		t.Errorf("Reply: %v, %v, want %v", reply, err, want)
	}
	labels, err := garble.Pick(receiver, x, reply)
	want = make([]api.Label, picked)
	want[0], want[1], want[63] = api.Label{2, 0}, api.Label{5, 8}, api.Label{7, 8}
	if err != nil || !slices.Equal(labels, want) {
		t.Errorf("Pick: %v, %v, want %v", labels, err, want)
	}
}

// dealt: OTs that fit, the sender's and the receiver's.
func dealt(t *testing.T, s *noise) [2][]api.OT {
	t.Helper()
	words := make([]uint64, 5*picked)
	for i := range words {
		words[i] = s.word()
	}
	stocks, err := corr.Deal(tape.Load(words), 0, 0, picked)
	if err != nil {
		t.Fatal(err)
	}
	var ots [2][]api.OT
	for side, stock := range stocks {
		for range picked {
			ot, err := stock.OT()
			if err != nil {
				t.Fatal(err)
			}
			ots[side] = append(ots[side], ot)
		}
	}
	return ots
}

// With OTs that fit the receiver gets the labels of its bits; what it doesn't choose stays hidden behind the sender's other label.
func TestTransferOfDealtOTs(t *testing.T) {
	s := noise(14)
	for _, x := range append(values(), s.word(), s.word()) {
		ots, zeros, delta := dealt(t, &s), s.labels(picked), s.delta()
		ask, err := garble.Ask(ots[1], x)
		reply, wrong := garble.Reply(ots[0], ask, zeros, delta)
		labels, bad := garble.Pick(ots[1], x, reply)
		if err != nil || wrong != nil || bad != nil || !slices.Equal(labels, labelled(zeros, delta, circ.Bits(x))) {
			t.Fatalf("the bits of %x: %v, %v, %v, %v", x, labels, err, wrong, bad)
		}
		for i := range picked {
			v := 1 - int(x>>i&1)
			unknown := ots[0][i].R[0]
			if !ots[1][i].Choice {
				unknown = ots[0][i].R[1]
			}
			if plus(reply[2*i+v], unknown) != garble.Label(zeros[i], delta, v == 1) {
				t.Fatalf("the bit %d of %x: the other label isn't hidden by what the receiver doesn't know", i, x)
			}
		}
	}
}

func TestNumbersOfOTs(t *testing.T) {
	s := noise(15)
	for _, n := range []int{0, 1, 2, 31, 32, 33, 62, 63, 64, 65, 66, 127, 128, 129, 192, 1000} {
		ots := s.ots(n)
		want := api.ErrRange
		if n == picked {
			want = api.OK
		}
		ask, err := garble.Ask(ots, 5)
		if fault.Code(err) != want || n != picked && ask != 0 {
			t.Errorf("Ask of %d OTs: %d, %v", n, ask, err)
		}
		for _, m := range []int{0, 1, 63, 64, 65, 127, 128, 129, n, 2 * n} {
			l, err := garble.Reply(ots, 5, s.labels(m), s.delta())
			if good := n == picked && m == picked; good && (err != nil || len(l) != 2*picked) || !good && (fault.Code(err) != api.ErrRange || l != nil) {
				t.Errorf("Reply of %d OTs, %d zero labels: %v, %v", n, m, l, err)
			}
			l, err = garble.Pick(ots, 5, s.labels(m))
			if good := n == picked && m == 2*picked; good && (err != nil || len(l) != picked) || !good && (fault.Code(err) != api.ErrRange || l != nil) {
				t.Errorf("Pick of %d OTs, %d labels of a reply: %v, %v", n, m, l, err)
			}
		}
	}
	for _, err := range []error{
		func() error { _, err := garble.Ask(nil, 0); return err }(),
		func() error { _, err := garble.Reply(nil, 0, nil, api.Label{}); return err }(),
		func() error { _, err := garble.Pick(nil, 0, nil); return err }(),
	} {
		if fault.Code(err) != api.ErrRange {
			t.Errorf("of nothing: %v", err)
		}
	}
}

// spoil writes up to the end of the spare room.
func spoil[T any](l []T, with T) {
	for i := range l[:cap(l)] {
		l[:cap(l)][i] = with
	}
}

// roomy: a list with spare room behind it, which holds the thing.
func roomy[T any](l []T, behind T) []T {
	room := append(slices.Clone(l), behind, behind, behind)
	return room[:len(l)]
}

// watch tells whether a list, its spare room included, stays as it is now.
func watch[T comparable](l []T) func() bool {
	was := slices.Clone(l[:cap(l)])
	return func() bool { return slices.Equal(l[:cap(l)], was) }
}

// What is handed in stays, spare room included, whether it is taken or refused.
func TestWhatIsHandedInStays(t *testing.T) {
	s := noise(16)
	mark := api.Label{77, 78}
	for range 200 {
		c := s.circuit(1+s.below(20), s.below(20), s.below(20))
		c.Gates, c.Outs = roomy(c.Gates, circ.Gate{Kind: 77}), roomy(c.Outs, 80)
		zeros, tables := roomy(s.labels(c.Inputs+s.below(2)), mark), roomy(s.labels(2*circ.Ands(c)+s.below(2)), mark)
		ots, reply, choices := roomy(s.ots(picked+s.below(2)), api.OT{}), roomy(s.labels(2*picked+s.below(2)), mark), roomy(s.labels(picked+s.below(2)), mark)
		stays := []func() bool{watch(c.Gates), watch(c.Outs), watch(zeros), watch(tables), watch(ots), watch(reply), watch(choices)}
		garble.Garble(c, s.label(), zeros, s.word())
		garble.Eval(c, zeros, tables, s.word())
		garble.Colours(zeros)
		garble.Ask(ots, s.word())
		garble.Reply(ots, s.word(), choices, s.delta())
		garble.Pick(ots, s.word(), reply)
		for i, same := range stays {
			if !same() {
				t.Fatalf("the list %d that was handed in is changed", i)
			}
		}
	}
}

// An answer stays, whatever becomes of what was handed in, of other answers, and of the answer's other list.
func TestAnswersAreNewMemory(t *testing.T) {
	s := noise(17)
	mark := api.Label{77, 78}
	for n := range 100 {
		inputs := 1 + s.below(20)
		c := s.circuit(inputs, s.below(20), s.below(65))
		if n%2 == 0 { // the outs are the inputs, just so
			c = circ.Circuit{Inputs: inputs}
			for i := range inputs {
				c.Outs = append(c.Outs, i)
			}
		}
		delta, zeros, first := s.delta(), s.labels(inputs), s.word()
		wantTables, wantOuts := garbled(c, delta, zeros, first)
		tables, outs, _ := garble.Garble(c, delta, zeros, first)
		otherTables, otherOuts, _ := garble.Garble(c, delta, zeros, first)
		wantLabels := evaluated(c, zeros, tables, first)
		labels, _ := garble.Eval(c, zeros, tables, first)
		others, _ := garble.Eval(c, zeros, tables, first)
		for _, l := range [][]api.Label{zeros, otherOuts, others} {
			spoil(l, mark)
		}
		spoil(c.Gates, circ.Gate{})
		spoil(c.Outs, -1)
		if !slices.Equal(otherTables, wantTables) || !slices.Equal(tables, wantTables) {
			t.Fatal("an answer's two lists share memory")
		}
		spoil(otherTables, mark)
		if !slices.Equal(tables, wantTables) || !slices.Equal(outs, wantOuts) || !slices.Equal(labels, wantLabels) {
			t.Fatal("two answers share memory, or an answer shares it with what was handed in")
		}
		spoil(tables, mark)
		if !slices.Equal(outs, wantOuts) || !slices.Equal(labels, wantLabels) {
			t.Fatal("the tables share memory with labels")
		}
	}
}

func TestTransferIsNewMemory(t *testing.T) {
	s := noise(18)
	mark := api.Label{77, 78}
	ots, zeros, delta := s.ots(picked), s.labels(picked), s.delta()
	keptOTs, keptZeros := slices.Clone(ots), slices.Clone(zeros)
	reply, _ := garble.Reply(ots, 5, zeros, delta)
	another, _ := garble.Reply(ots, 5, zeros, delta)
	spoil(another, mark)
	labels, _ := garble.Pick(ots, 9, reply)
	others, _ := garble.Pick(ots, 9, reply)
	spoil(others, mark)
	spoil(ots, api.OT{})
	spoil(zeros, mark)
	wantReply := replied(keptOTs, 5, keptZeros, delta)
	if !slices.Equal(reply, wantReply) {
		t.Error("a reply shares memory")
	}
	spoil(reply, mark)
	if !slices.Equal(labels, got(keptOTs, 9, wantReply)) {
		t.Error("picked labels share memory")
	}
}

// What is handed in isn't kept.
func TestWhatIsHandedInIsLetGo(t *testing.T) {
	s := noise(19)
	c := s.circuit(50, 100, 10)
	zeros, tables, ots, reply, choices := s.labels(50), s.labels(2*circ.Ands(c)), s.ots(picked), s.labels(2*picked), s.labels(picked)
	kept := []interface{ gone() bool }{weakly(c.Gates), weakly(c.Outs), weakly(zeros), weakly(tables), weakly(ots), weakly(reply), weakly(choices)}
	answers := make([][]api.Label, 5)
	errs := make([]error, 8)
	answers[0], answers[1], errs[0] = garble.Garble(c, s.delta(), zeros, 5)
	answers[2], errs[1] = garble.Eval(c, zeros, tables, 5)
	answers[3], errs[2] = garble.Reply(ots, 5, choices, s.delta())
	answers[4], errs[3] = garble.Pick(ots, 5, reply)
	_, _, errs[4] = garble.Garble(c, api.Label{}, zeros, 5)
	_, errs[5] = garble.Eval(c, zeros, tables[1:], 5)
	_, errs[6] = garble.Reply(ots, 5, choices[1:], s.delta())
	_, errs[7] = garble.Pick(ots[1:], 5, reply)
	c, zeros, tables, ots, reply, choices = circ.Circuit{}, nil, nil, nil, nil, nil
	for range 5 {
		runtime.GC()
	}
	for i, list := range kept {
		if !list.gone() {
			t.Errorf("the list %d that was handed in is kept", i)
		}
	}
	runtime.KeepAlive(answers)
	for i, err := range errs {
		if (err == nil) != (i < 4) {
			t.Errorf("the call %d: %v", i, err)
		}
	}
}

// weakList holds a list's memory without keeping it.
type weakList[T any] struct{ p weak.Pointer[T] }

func weakly[T any](l []T) weakList[T] { return weakList[T]{weak.Make(unsafe.SliceData(l))} }

func (l weakList[T]) gone() bool { return l.p.Value() == nil }

// The same call answers the same, whatever was called between.
func TestCallsAreAlike(t *testing.T) {
	s := noise(20)
	c := s.circuit(5, 20, 7)
	delta, zeros, ots := s.delta(), s.labels(5), s.ots(picked)
	for range 5 {
		tables, _ := checkGarble(t, c, delta, zeros, 9)
		other := s.circuit(7, 20, 9)
		checkGarble(t, other, s.delta(), s.labels(7), s.word())
		checkEval(t, c, zeros, tables, 9)
		checkEval(t, other, s.labels(7), s.labels(2*circ.Ands(other)), s.word())
		garble.Garble(c, api.Label{}, zeros, 0)
		garble.Ask(ots[1:], 4)
		if ask, err := garble.Ask(ots, 4); err != nil || ask != asked(ots, 4) {
			t.Errorf("Ask: %x, %v", ask, err)
		}
	}
}

// The numbers are found by errors.Is and errors.As as well.
func TestErrorsAreWrapped(t *testing.T) {
	c := one(circ.And, 0, 1)
	two := make([]api.Label, 2)
	_, _, circuit := garble.Garble(circ.Circuit{Inputs: -1}, api.Label{}, nil, 0)
	_, _, zeros := garble.Garble(c, api.Label{}, nil, 0)
	_, _, delta := garble.Garble(c, api.Label{}, two, 0)
	_, evalCircuit := garble.Eval(circ.Circuit{Inputs: -1}, nil, nil, 0)
	_, labels := garble.Eval(c, nil, nil, 0)
	_, tables := garble.Eval(c, two, nil, 0)
	_, ask := garble.Ask(nil, 0)
	_, reply := garble.Reply(nil, 0, nil, api.Label{})
	_, pick := garble.Pick(nil, 0, nil)
	for i, x := range []struct {
		err  error
		want api.Errno
	}{
		{circuit, api.ErrCircuit}, {zeros, api.ErrRange}, {delta, api.ErrGarble}, {evalCircuit, api.ErrCircuit}, {labels, api.ErrRange}, {tables, api.ErrGarble},
		{ask, api.ErrRange}, {reply, api.ErrRange}, {pick, api.ErrRange},
	} {
		var code api.Errno
		if !errors.Is(x.err, x.want) || !errors.As(x.err, &code) || code != x.want || fault.Code(x.err) != x.want {
			t.Errorf("%d: %v isn't %d", i, x.err, x.want)
		}
	}
}

// taken: a circuit, or none, and labels out of bytes.
func taken(inputs int, gates, outs []byte) circ.Circuit {
	c := circ.Circuit{Inputs: inputs}
	for i := range len(gates) / 3 {
		c.Gates = append(c.Gates, circ.Gate{Kind: circ.GateKind(int8(gates[3*i])), A: int(int8(gates[3*i+1])), B: int(int8(gates[3*i+2]))})
	}
	for _, w := range outs {
		c.Outs = append(c.Outs, int(int8(w)))
	}
	return c
}

// FuzzGarble takes a circuit, and how many labels, tables and OTs are handed in, out of the bytes.
func FuzzGarble(f *testing.F) {
	f.Add(2, []byte{2, 0, 1, 3, 2, 0}, []byte{3}, 2, 2, uint64(1), uint64(math.MaxUint64), uint64(7))
	f.Add(1, []byte{2, 0, 0, 2, 1, 0}, []byte{2, 1}, 1, 4, uint64(2), uint64(0), uint64(8))
	f.Add(-1, []byte{}, []byte{}, 64, 128, uint64(0), uint64(1), uint64(9))
	f.Fuzz(func(t *testing.T, inputs int, gates, outs []byte, labels, tables int, low, first, seed uint64) {
		c, s := taken(inputs, gates, outs), noise(seed)
		l, m := s.labels(labels&0xff), s.labels(tables&0xff)
		delta := api.Label{low, s.word()}
		fits := circ.Check(c) == nil
		want, wantEval := api.OK, api.OK
		switch {
		case !fits:
			want, wantEval = api.ErrCircuit, api.ErrCircuit
		case len(l) != inputs:
			want, wantEval = api.ErrRange, api.ErrRange
		default:
			if low%2 == 0 {
				want = api.ErrGarble
			}
			if len(m) != 2*circ.Ands(c) {
				wantEval = api.ErrGarble
			}
		}
		if want == api.OK {
			checkGarble(t, c, delta, l, first)
			checkBits(t, c, delta, l, first, s.bits(inputs))
		} else {
			checkGarbleRefused(t, c, delta, l, want)
		}
		if wantEval == api.OK {
			checkEval(t, c, l, m, first)
		} else {
			checkEvalRefused(t, c, l, m, wantEval)
		}
		checkTransfer(t, s.ots(len(m)), first, l, m, delta)
	})
}

// checkTransfer: each call answers by the words, or refuses.
func checkTransfer(t *testing.T, ots []api.OT, x uint64, zeros, reply []api.Label, delta api.Label) {
	t.Helper()
	check := func(name string, fits bool, err error, same func() bool) {
		t.Helper()
		if fits && (err != nil || !same()) || !fits && fault.Code(err) != api.ErrRange {
			t.Fatalf("%s of %s OTs: %v", name, strconv.Itoa(len(ots)), err)
		}
	}
	all := len(ots) == picked
	ask, err := garble.Ask(ots, x)
	check("Ask", all, err, func() bool { return ask == asked(ots, x) })
	l, err := garble.Reply(ots, x, zeros, delta)
	check(fmt.Sprint("Reply with ", len(zeros)), all && len(zeros) == picked, err, func() bool { return slices.Equal(l, replied(ots, x, zeros, delta)) })
	l, err = garble.Pick(ots, x, reply)
	check(fmt.Sprint("Pick with ", len(reply)), all && len(reply) == 2*picked, err, func() bool { return slices.Equal(l, got(ots, x, reply)) })
}

func BenchmarkGarble(b *testing.B) {
	s := noise(21)
	c, err := circ.Make(api.GarbMax, 0)
	if err != nil {
		b.Fatal(err)
	}
	delta, zeros := s.delta(), s.labels(c.Inputs)
	for b.Loop() {
		garble.Garble(c, delta, zeros, 0)
	}
}
