package circ_test

import (
	"errors"
	"fmt"
	"math"
	"runtime"
	"slices"
	"strconv"
	"strings"
	"testing"
	"unsafe"
	"weak"

	"twain/api"
	"twain/circ"
	"twain/fault"
)

// most is the greatest number of inputs, and of gates.
const most = 4096

// noise tells the same words in each run.
type noise uint64

func (s *noise) word() uint64 {
	*s += 0x9e3779b97f4a7c15
	x := uint64(*s)
	x = (x ^ x>>30) * 0xbf58476d1ce4e5b9
	x = (x ^ x>>27) * 0x94d049bb133111eb
	return x ^ x>>31
}

// below: a number from 0 to n - 1.
func (s *noise) below(n int) int { return int(s.word() % uint64(n)) }

func (s *noise) bits(n int) []bool {
	l := make([]bool, n)
	for i := range l {
		l[i] = s.below(2) == 1
	}
	return l
}

// gate: one that the wire may have.
func (s *noise) gate(wire int) circ.Gate {
	g := circ.Gate{Kind: circ.GateKind(1 + s.below(3)), A: s.below(wire)}
	if g.Kind != circ.Not {
		g.B = s.below(wire)
	}
	return g
}

// circuit: one of so many inputs, gates and outs.
func (s *noise) circuit(inputs, gates, outs int) circ.Circuit {
	c := circ.Circuit{Inputs: inputs}
	for i := range gates {
		c.Gates = append(c.Gates, s.gate(inputs+i))
	}
	for range outs {
		c.Outs = append(c.Outs, s.below(inputs+gates))
	}
	return c
}

// far: numbers that are no wires, whatever the circuit: those below 0, and those that cut to fewer bits would be wires.
func far() []int {
	return []int{
		-1, -2, -most, 2 * most, 2*most + 1, 1 << 16, 1 << 31, 1 << 32, 1<<32 + 1, -1 << 32, 1 << 62, math.MaxInt, math.MaxInt - 1, math.MinInt, math.MinInt + 1,
	}
}

// pad: so many gates of the wire 0.
func pad(n int) []circ.Gate {
	l := make([]circ.Gate, n)
	for i := range l {
		l[i] = circ.Gate{Kind: circ.Xor}
	}
	return l
}

// checkTaken: it is a circuit.
func checkTaken(t *testing.T, name string, c circ.Circuit) {
	t.Helper()
	if err := circ.Check(c); err != nil {
		t.Errorf("%s: Check: %v", name, err)
	}
	if l, err := circ.Eval(c, make([]bool, c.Inputs)); err != nil || len(l) != len(c.Outs) {
		t.Errorf("%s: Eval: %v, %v", name, l, err)
	}
}

// checkRefused: it is none, whatever bits are handed in.
func checkRefused(t *testing.T, name string, c circ.Circuit) {
	t.Helper()
	if err := circ.Check(c); fault.Code(err) != api.ErrCircuit {
		t.Errorf("%s: Check: %v", name, err)
	}
	for _, n := range []int{0, 1, 2, 3, most} {
		if l, err := circ.Eval(c, make([]bool, n)); fault.Code(err) != api.ErrCircuit || l != nil {
			t.Errorf("%s: Eval of %d bits: %v, %v", name, n, l, err)
		}
	}
}

func checkEval(t *testing.T, c circ.Circuit, in, want []bool) {
	t.Helper()
	if l, err := circ.Eval(c, in); err != nil || !slices.Equal(l, want) {
		t.Errorf("Eval of %v, %v: %v, %v, want %v", c, in, l, err, want)
	}
}

func TestExamples(t *testing.T) {
	c := circ.Circuit{Inputs: 2, Gates: []circ.Gate{{Kind: circ.And, A: 0, B: 1}, {Kind: circ.Not, A: 2}}, Outs: []int{3}}
	checkEval(t, c, []bool{true, true}, []bool{false})
	checkEval(t, c, []bool{false, true}, []bool{true})
	checkRefused(t, "And 0 2", circ.Circuit{Inputs: 2, Gates: []circ.Gate{{Kind: circ.And, A: 0, B: 2}}})
	checkMade(t, api.GarbRelu, 1, [4]uint64{5, 0}, 5)
	checkMade(t, api.GarbRelu, 1, [4]uint64{1 << 63, 0}, 0)
}

func TestKindsHaveTheirNumbers(t *testing.T) {
	if circ.Xor != 1 || circ.And != 2 || circ.Not != 3 {
		t.Errorf("the kinds are %d, %d, %d", circ.Xor, circ.And, circ.Not)
	}
}

func TestEachGate(t *testing.T) {
	for number := range 4 {
		a, b := number&1 == 1, number>>1 == 1
		for _, x := range []struct {
			gate circ.Gate
			want bool
		}{
			{circ.Gate{Kind: circ.Xor, A: 0, B: 1}, a != b},
			{circ.Gate{Kind: circ.Xor, A: 1, B: 0}, a != b},
			{circ.Gate{Kind: circ.Xor, A: 1, B: 1}, false},
			{circ.Gate{Kind: circ.And, A: 0, B: 1}, a && b},
			{circ.Gate{Kind: circ.And, A: 1, B: 0}, a && b},
			{circ.Gate{Kind: circ.And, A: 1, B: 1}, b},
			{circ.Gate{Kind: circ.Not, A: 0}, !a},
			{circ.Gate{Kind: circ.Not, A: 1}, !b},
		} {
			c := circ.Circuit{Inputs: 2, Gates: []circ.Gate{x.gate}, Outs: []int{2, 0, 1, 2}}
			checkEval(t, c, []bool{a, b}, []bool{x.want, a, b, x.want})
		}
	}
}

func TestNothing(t *testing.T) {
	checkTaken(t, "nothing", circ.Circuit{})
	checkTaken(t, "empty lists", circ.Circuit{Gates: []circ.Gate{}, Outs: []int{}})
	for _, in := range [][]bool{nil, {}} {
		checkEval(t, circ.Circuit{}, in, nil)
		checkEval(t, circ.Circuit{Gates: []circ.Gate{}, Outs: []int{}}, in, nil)
	}
	// Without inputs there is no wire that a gate could have.
	for _, g := range []circ.Gate{{Kind: circ.Xor}, {Kind: circ.And}, {Kind: circ.Not}} {
		checkRefused(t, "a gate without inputs", circ.Circuit{Gates: []circ.Gate{g}})
	}
	checkRefused(t, "an out without wires", circ.Circuit{Outs: []int{0}})
	checkTaken(t, "no gates", circ.Circuit{Inputs: 3, Outs: []int{2, 0, 2}})
	checkEval(t, circ.Circuit{Inputs: 3, Outs: []int{2, 0, 2}}, []bool{true, false, false}, []bool{false, true, false})
	checkEval(t, circ.Circuit{Inputs: 2, Gates: pad(1)}, []bool{true, false}, nil)
}

func TestNumberOfInputs(t *testing.T) {
	for _, n := range []int{0, 1, 2, 63, 64, 65, most - 1, most} {
		checkTaken(t, "inputs "+strconv.Itoa(n), circ.Circuit{Inputs: n})
	}
	for _, n := range append(far(), most+1, most+2) {
		checkRefused(t, "inputs "+strconv.Itoa(n), circ.Circuit{Inputs: n})
		checkRefused(t, "inputs "+strconv.Itoa(n)+" and gates", circ.Circuit{Inputs: n, Gates: pad(2), Outs: []int{0}})
	}
	checkEval(t, circ.Circuit{Inputs: most, Outs: []int{most - 1, 0}}, append(make([]bool, most-1), true), []bool{true, false})
}

func TestNumberOfGates(t *testing.T) {
	for _, n := range []int{0, 1, most - 1, most} {
		checkTaken(t, "gates "+strconv.Itoa(n), circ.Circuit{Inputs: 1, Gates: pad(n), Outs: []int{n}})
		checkTaken(t, "gates and most inputs", circ.Circuit{Inputs: most, Gates: pad(n), Outs: []int{most + n - 1}})
		checkRefused(t, "out behind all", circ.Circuit{Inputs: most, Gates: pad(n), Outs: []int{most + n}})
	}
	for _, n := range []int{most + 1, most + 2, 2 * most} {
		checkRefused(t, "gates "+strconv.Itoa(n), circ.Circuit{Inputs: 1, Gates: pad(n)})
		checkRefused(t, "gates and most inputs", circ.Circuit{Inputs: most, Gates: pad(n)})
	}
	checkRefused(t, "gates of no kind", circ.Circuit{Inputs: 1, Gates: make([]circ.Gate, most+1)})
}

func TestNumberOfOuts(t *testing.T) {
	for _, n := range []int{0, 1, 63, 64} {
		checkTaken(t, "outs "+strconv.Itoa(n), circ.Circuit{Inputs: 1, Outs: make([]int, n)})
	}
	for _, n := range []int{65, 66, 128, most} {
		checkRefused(t, "outs "+strconv.Itoa(n), circ.Circuit{Inputs: 1, Outs: make([]int, n)})
		checkRefused(t, "outs "+strconv.Itoa(n)+" of most inputs", circ.Circuit{Inputs: most, Gates: pad(most), Outs: make([]int, n)})
	}
}

// Each gate of a circuit of three gates may have just the wires ahead of its own.
func TestWiresOfGates(t *testing.T) {
	for inputs := 1; inputs <= 3; inputs++ {
		for place := range 3 {
			for wire := -2; wire < inputs+5; wire++ {
				good := wire >= 0 && wire < inputs+place
				for _, g := range []circ.Gate{
					{Kind: circ.Xor, A: wire}, {Kind: circ.Xor, B: wire}, {Kind: circ.And, A: wire}, {Kind: circ.And, B: wire},
					{Kind: circ.Xor, A: wire, B: wire}, {Kind: circ.And, A: wire, B: wire}, {Kind: circ.Not, A: wire},
				} {
					c := circ.Circuit{Inputs: inputs, Gates: pad(3), Outs: []int{inputs + 2}}
					c.Gates[place] = g
					name := fmt.Sprintf("gate %d of %d inputs: %v", place, inputs, g)
					if good {
						checkTaken(t, name, c)
					} else {
						checkRefused(t, name, c)
					}
				}
			}
		}
	}
}

func TestWiresFarAway(t *testing.T) {
	for _, wire := range far() {
		for _, g := range []circ.Gate{
			{Kind: circ.Xor, A: wire}, {Kind: circ.Xor, B: wire}, {Kind: circ.And, A: wire}, {Kind: circ.And, B: wire},
			{Kind: circ.Not, A: wire}, {Kind: circ.Not, B: wire},
		} {
			checkRefused(t, fmt.Sprint(g), circ.Circuit{Inputs: 1, Gates: []circ.Gate{g}})
			checkRefused(t, fmt.Sprint(g, " of most"), circ.Circuit{Inputs: most, Gates: append(pad(most-1), g)})
		}
		checkRefused(t, "out "+strconv.Itoa(wire), circ.Circuit{Inputs: 1, Outs: []int{wire}})
		checkRefused(t, "the last out "+strconv.Itoa(wire), circ.Circuit{Inputs: most, Gates: pad(most), Outs: append(make([]int, 63), wire)})
	}
	// The last gate that may be, of the last wires ahead of it.
	last := 2*most - 1
	for _, kind := range []circ.GateKind{circ.Xor, circ.And} {
		checkTaken(t, "the last wire ahead", circ.Circuit{Inputs: most, Gates: append(pad(most-1), circ.Gate{Kind: kind, A: last - 1, B: last - 1}), Outs: []int{last}})
		checkRefused(t, "its own wire, A", circ.Circuit{Inputs: most, Gates: append(pad(most-1), circ.Gate{Kind: kind, A: last, B: last - 1})})
		checkRefused(t, "its own wire, B", circ.Circuit{Inputs: most, Gates: append(pad(most-1), circ.Gate{Kind: kind, A: last - 1, B: last})})
	}
	checkTaken(t, "Not of the last wire ahead", circ.Circuit{Inputs: most, Gates: append(pad(most-1), circ.Gate{Kind: circ.Not, A: last - 1}), Outs: []int{last}})
	checkRefused(t, "Not of its own wire", circ.Circuit{Inputs: most, Gates: append(pad(most-1), circ.Gate{Kind: circ.Not, A: last})})
}

func TestNotHasOneWire(t *testing.T) {
	for _, b := range append(far(), 1, 2, 3) {
		checkRefused(t, "Not with B "+strconv.Itoa(b), circ.Circuit{Inputs: 3, Gates: []circ.Gate{{Kind: circ.Not, A: 2, B: b}}})
	}
	checkTaken(t, "Not with B 0", circ.Circuit{Inputs: 3, Gates: []circ.Gate{{Kind: circ.Not, A: 2, B: 0}}})
}

func TestKindsOfGates(t *testing.T) {
	for _, kind := range append(far(), 0, 4, 5, 6, 7, 1<<32+2, 1<<32+3, 257, 258, 259) {
		for _, g := range []circ.Gate{{Kind: circ.GateKind(kind)}, {Kind: circ.GateKind(kind), A: 1, B: 1}} {
			checkRefused(t, "kind "+strconv.Itoa(kind), circ.Circuit{Inputs: 2, Gates: []circ.Gate{g}})
			checkRefused(t, "kind "+strconv.Itoa(kind)+" behind", circ.Circuit{Inputs: 2, Gates: append(pad(2), g), Outs: []int{0}})
		}
	}
}

func TestOutsAreWires(t *testing.T) {
	for inputs := range 4 {
		for gates := range 3 {
			if inputs == 0 && gates > 0 {
				continue
			}
			for wire := -3; wire < inputs+gates+4; wire++ {
				for place := range 3 {
					if inputs == 0 && place > 0 {
						continue
					}
					c := circ.Circuit{Inputs: inputs, Gates: pad(gates), Outs: make([]int, place+1)}
					c.Outs[place] = wire
					name := fmt.Sprintf("%d inputs, %d gates, outs %v", inputs, gates, c.Outs)
					if wire >= 0 && wire < inputs+gates {
						checkTaken(t, name, c)
					} else {
						checkRefused(t, name, c)
					}
				}
			}
		}
	}
}

func TestBitsThatAreHandedIn(t *testing.T) {
	s := noise(1)
	for _, inputs := range []int{0, 1, 2, 5, 64, most} {
		c := s.circuit(max(inputs, 1), 3, 4)
		c.Inputs = inputs
		if inputs == 0 {
			c.Gates, c.Outs = nil, nil
		}
		for _, n := range []int{0, 1, 2, 3, 4, 5, 6, 63, 64, 65, most - 1, most, most + 1, inputs + 3} {
			l, err := circ.Eval(c, s.bits(n))
			if n == inputs && (err != nil || len(l) != len(c.Outs)) {
				t.Errorf("%d bits: %v, %v", n, l, err)
			}
			if n != inputs && (fault.Code(err) != api.ErrRange || l != nil) {
				t.Errorf("%d bits for %d inputs: %v, %v", n, inputs, l, err)
			}
		}
	}
}

// told: the bit of a wire, asked from its end: another way than gate by gate.
func told(c circ.Circuit, in []bool, wire int, known map[int]bool) bool {
	if wire < c.Inputs {
		return in[wire]
	}
	if bit, ok := known[wire]; ok {
		return bit
	}
	g := c.Gates[wire-c.Inputs]
	n := 0
	for _, w := range []int{g.A, g.B} {
		if told(c, in, w, known) {
			n++
		}
	}
	bit := n == 1
	switch g.Kind {
	case circ.And:
		bit = n == 2
	case circ.Not:
		bit = !told(c, in, g.A, known)
	}
	known[wire] = bit
	return bit
}

func checkTold(t *testing.T, c circ.Circuit, in []bool) {
	t.Helper()
	known, want := map[int]bool{}, []bool{}
	for _, w := range c.Outs {
		want = append(want, told(c, in, w, known))
	}
	if l, err := circ.Eval(c, in); err != nil || !slices.Equal(l, want) {
		t.Fatalf("Eval of %v, %v: %v, %v, want %v", c, in, l, err, want)
	}
	ands := 0
	for _, g := range c.Gates {
		ands += strings.Count(fmt.Sprint(g), "{2 ")
	}
	if got := circ.Ands(c); got != ands {
		t.Fatalf("Ands of %v: %d, want %d", c, got, ands)
	}
}

// small: all gates that the wire may have.
func small(wire int) []circ.Gate {
	var l []circ.Gate
	for a := range wire {
		l = append(l, circ.Gate{Kind: circ.Not, A: a})
		for b := range wire {
			l = append(l, circ.Gate{Kind: circ.Xor, A: a, B: b}, circ.Gate{Kind: circ.And, A: a, B: b})
		}
	}
	return l
}

func TestEverySmallCircuit(t *testing.T) {
	for _, g := range small(2) {
		for _, h := range small(3) {
			for _, i := range small(4) {
				c := circ.Circuit{Inputs: 2, Gates: []circ.Gate{g, h, i}, Outs: []int{4, 3, 2, 1, 0}}
				for number := range 4 {
					checkTold(t, c, []bool{number&1 == 1, number>>1 == 1})
				}
			}
		}
	}
}

func TestGreatCircuits(t *testing.T) {
	s := noise(2)
	for range 200 {
		inputs := 1 + s.below(200)
		checkTold(t, s.circuit(inputs, s.below(400), s.below(65)), s.bits(inputs))
	}
	c := s.circuit(most, most, 64)
	checkTold(t, c, s.bits(most))
	// Each gate hangs on the one ahead: it takes them all to tell the last.
	for _, kind := range []circ.GateKind{circ.Xor, circ.And, circ.Not} {
		c = circ.Circuit{Inputs: 2, Outs: []int{most + 1, most, 2}}
		for i := range most {
			g := circ.Gate{Kind: kind, A: i + 1}
			if kind != circ.Not {
				g.B = i
			}
			c.Gates = append(c.Gates, g)
		}
		for number := range 4 {
			checkTold(t, c, []bool{number&1 == 1, number>>1 == 1})
		}
	}
}

func TestAnds(t *testing.T) {
	for _, x := range []struct {
		gates []circ.Gate
		want  int
	}{
		{nil, 0}, {pad(5), 0}, {[]circ.Gate{{Kind: circ.Not}}, 0}, {[]circ.Gate{{Kind: circ.And}}, 1},
		{[]circ.Gate{{Kind: circ.And}, {Kind: circ.Xor}, {Kind: circ.And}, {Kind: circ.Not}, {Kind: circ.And}}, 3},
	} {
		if got := circ.Ands(circ.Circuit{Inputs: 1, Gates: x.gates, Outs: []int{0}}); got != x.want {
			t.Errorf("Ands of %v: %d, want %d", x.gates, got, x.want)
		}
	}
	all := make([]circ.Gate, most)
	for i := range all {
		all[i].Kind = circ.And
	}
	if got := circ.Ands(circ.Circuit{Inputs: 1, Gates: all}); got != most {
		t.Errorf("Ands of as many as may be: %d", got)
	}
}

// words: those at the edges of signed numbers, and of bits.
func words() []uint64 {
	return []uint64{
		0, 1, 2, 3, 1 << 62, 1<<62 - 1, 1<<62 + 1, 1<<63 - 2, 1<<63 - 1, 1 << 63, 1<<63 + 1, 3 << 62,
		math.MaxUint64 - 1, math.MaxUint64, 0xaaaaaaaaaaaaaaaa, 0x5555555555555555, 1<<32 - 1, 1 << 32,
	}
}

func TestBitsOfAWord(t *testing.T) {
	s := noise(3)
	l := words()
	for i := range 64 {
		l = append(l, 1<<i, ^(uint64(1) << i), s.word())
	}
	for _, x := range l {
		bits := circ.Bits(x)
		text := ""
		for _, b := range bits {
			text = map[bool]string{false: "0", true: "1"}[b] + text
		}
		if want := fmt.Sprintf("%064b", x); text != want {
			t.Errorf("Bits of %d: %s, want %s", x, text, want)
		}
		if got := circ.Word(bits); got != x {
			t.Errorf("Word of the bits of %d: %d", x, got)
		}
	}
}

func TestWordOfBits(t *testing.T) {
	s := noise(4)
	for _, n := range []int{0, 1, 2, 7, 8, 31, 32, 33, 62, 63, 64, 65, 66, 127, 128, 129, 1000} {
		lists := [][]bool{make([]bool, n), slices.Repeat([]bool{true}, n)}
		for range 20 {
			lists = append(lists, s.bits(n))
		}
		for i := range n {
			one := make([]bool, n)
			one[i] = true
			lists = append(lists, one)
		}
		for _, l := range lists {
			want, power := uint64(0), uint64(1)
			for _, b := range l[:min(n, 64)] {
				if b {
					want += power
				}
				power *= 2
			}
			if got := circ.Word(l); got != want {
				t.Errorf("Word of %v: %d, want %d", l, got, want)
			}
		}
	}
	if got := circ.Word(nil); got != 0 {
		t.Errorf("Word of nothing: %d", got)
	}
	// Spare room is no part of a list.
	if got := circ.Word(slices.Repeat([]bool{true}, 64)[:3]); got != 7 {
		t.Errorf("Word of three: %d", got)
	}
}

// mustMake is Make, where it must answer a circuit.
func mustMake(t *testing.T, kind int, forms uint64) circ.Circuit {
	t.Helper()
	c, err := circ.Make(kind, forms)
	if err != nil {
		t.Fatalf("Make(%d, %d): %v", kind, forms, err)
	}
	if err := circ.Check(c); err != nil {
		t.Fatalf("Make(%d, %d) is no circuit: %v", kind, forms, err)
	}
	return c
}

// operandsOf: how many a kind has.
func operandsOf(kind int) int { return min(kind, 2) }

// everyMade calls f for each kind and its forms.
func everyMade(f func(kind int, forms uint64)) {
	for _, kind := range []int{api.GarbRelu, api.GarbLess, api.GarbMax} {
		for forms := range uint64(1) << operandsOf(kind) {
			f(kind, forms)
		}
	}
}

// checkMade evaluates what Make answers on shares: the first operand's of party 0, of party 1, then the second's.
func checkMade(t *testing.T, kind int, forms uint64, shares [4]uint64, want uint64) {
	t.Helper()
	checkOn(t, mustMake(t, kind, forms), fmt.Sprintf("kind %d, forms %d", kind, forms), shares, want)
}

func checkOn(t *testing.T, c circ.Circuit, name string, shares [4]uint64, want uint64) {
	t.Helper()
	in := make([]bool, 0, 256)
	for _, x := range shares[:c.Inputs/64] {
		for k := range 64 {
			in = append(in, x>>k&1 == 1)
		}
	}
	l, err := circ.Eval(c, in)
	if err != nil || len(l) != 64 || circ.Word(l) != want {
		t.Errorf("%s of %v: %d, %v, want %d", name, shares, circ.Word(l), err, want)
	}
}

// split: the shares of a word whose one is r.
func split(x, r uint64, exclusive bool) (uint64, uint64) {
	if exclusive {
		return r, x ^ r
	}
	return r, x - r
}

// meant: what a kind makes of two words.
func meant(kind int, x, y uint64) uint64 {
	a, b := int64(x), int64(y)
	switch {
	case kind == api.GarbRelu:
		return uint64(max(a, 0))
	case kind == api.GarbMax:
		return uint64(max(a, b))
	case a < b:
		return 1
	}
	return 0
}

func checkWords(t *testing.T, c circ.Circuit, kind int, forms uint64, x, y, r, q uint64) {
	t.Helper()
	var shares [4]uint64
	shares[0], shares[1] = split(x, r, forms&1 == 1)
	if kind != api.GarbRelu {
		shares[2], shares[3] = split(y, q, forms>>1 == 1)
	}
	checkOn(t, c, fmt.Sprintf("kind %d, forms %d: %d and %d", kind, forms, x, y), shares, meant(kind, x, y))
}

func TestMadeCircuitsOnEdges(t *testing.T) {
	s := noise(5)
	everyMade(func(kind int, forms uint64) {
		c := mustMake(t, kind, forms)
		for _, x := range words() {
			for _, y := range words() {
				for _, r := range []uint64{0, x, y, 1 << 63, math.MaxUint64, s.word()} {
					checkWords(t, c, kind, forms, x, y, r, s.word())
					checkWords(t, c, kind, forms, x, y, s.word(), r)
				}
			}
		}
	})
}

func TestMadeCircuitsOnAnyShares(t *testing.T) {
	s := noise(6)
	everyMade(func(kind int, forms uint64) {
		c := mustMake(t, kind, forms)
		for range 2000 {
			x, y := s.word()>>s.below(64), s.word()>>s.below(64)
			if s.below(2) == 0 {
				x = -x
			}
			if s.below(3) == 0 {
				y = x + uint64(s.below(5)) - 2
			}
			checkWords(t, c, kind, forms, x, y, s.word(), s.word())
		}
		// Words that are alike but for one bit, and carries that run on through all bits.
		for k := range 64 {
			x := s.word()
			checkWords(t, c, kind, forms, x, x^1<<k, s.word(), s.word())
			checkWords(t, c, kind, forms, x^1<<k, x, s.word(), s.word())
			from := uint64(math.MaxUint64) << k // all bits from k on
			checkWords(t, c, kind, forms, 0, from, 1<<k, 1<<k)
			checkWords(t, c, kind, forms, from, 0, from, math.MaxUint64)
		}
	})
}

// The least and the greatest signed number, and their neighbours.
func TestLeastAndGreatest(t *testing.T) {
	least, greatest := uint64(1)<<63, uint64(1)<<63-1
	for forms := range uint64(4) {
		for _, r := range []uint64{0, 1, least, greatest, math.MaxUint64} {
			for _, x := range []struct{ x, y, less, greater uint64 }{
				{least, greatest, 1, greatest}, {greatest, least, 0, greatest}, {least, least, 0, least}, {greatest, greatest, 0, greatest},
				{least, least + 1, 1, least + 1}, {least + 1, least, 0, least + 1}, {greatest - 1, greatest, 1, greatest},
				{greatest, greatest - 1, 0, greatest}, {least, 0, 1, 0}, {0, least, 0, 0}, {greatest, 0, 0, greatest}, {0, greatest, 1, greatest},
				{math.MaxUint64, 0, 1, 0}, {0, math.MaxUint64, 0, 0}, {math.MaxUint64, least, 0, math.MaxUint64}, {0, 0, 0, 0},
			} {
				var shares [4]uint64
				shares[0], shares[1] = split(x.x, r, forms&1 == 1)
				shares[2], shares[3] = split(x.y, -r, forms>>1 == 1)
				checkMade(t, api.GarbLess, forms, shares, x.less)
				checkMade(t, api.GarbMax, forms, shares, x.greater)
			}
		}
	}
	for forms := range uint64(2) {
		for _, x := range [][2]uint64{{least, 0}, {least + 1, 0}, {math.MaxUint64, 0}, {0, 0}, {1, 1}, {greatest, greatest}, {greatest - 1, greatest - 1}} {
			a, b := split(x[0], 77, forms == 1)
			checkMade(t, api.GarbRelu, forms, [4]uint64{a, b}, x[1])
		}
	}
}

// script reads a circuit out of lines: each a gate's name, its kind, and the names of its wires.
type script struct {
	inputs int
	wires  map[string]int
	gates  []circ.Gate
}

func newScript(operands string) *script {
	s := &script{wires: map[string]int{}}
	for _, operand := range operands {
		for _, share := range "ab" {
			for k := range 64 {
				s.wires[fmt.Sprintf("%c%c%d", operand, share, k)] = s.inputs
				s.inputs++
			}
		}
	}
	s.wires["first"] = 0
	return s
}

// say takes a line; a name that is there already stands for the new wire from then on.
func (s *script) say(form string, args ...any) {
	f := strings.Fields(fmt.Sprintf(form, args...))
	wire := func(name string) int {
		w, ok := s.wires[name]
		if !ok {
			panic("no wire " + name)
		}
		return w
	}
	g := circ.Gate{Kind: map[string]circ.GateKind{"Xor": 1, "And": 2, "Not": 3}[f[1]], A: wire(f[2])}
	if g.Kind != 3 {
		g.B = wire(f[3])
	}
	s.gates = append(s.gates, g)
	s.wires[f[0]] = s.inputs + len(s.gates) - 1
}

// carry: the chapter's four gates; c is it from then on.
func (s *script) carry(u, v string) {
	s.say("p Xor %s c", u)
	s.say("q Xor %s c", v)
	s.say("r And p q")
	s.say("c Xor c r")
}

// operand: the bits x0, x1, .. out of xa0, .. and xb0, ..
func (s *script) operand(x string, exclusive bool) {
	bit := func(share string, k int) string { return x + share + strconv.Itoa(k) }
	if exclusive {
		for k := 0; k <= 63; k++ {
			s.say("%s Xor %s %s", bit("", k), bit("a", k), bit("b", k))
		}
		return
	}
	s.say("%s Xor %s %s", bit("", 0), bit("a", 0), bit("b", 0))
	s.say("c And %s %s", bit("a", 0), bit("b", 0))
	for k := 1; k <= 63; k++ {
		s.say("t Xor %s %s", bit("a", k), bit("b", k))
		s.say("%s Xor t c", bit("", k))
		if k != 63 {
			s.carry(bit("a", k), bit("b", k))
		}
	}
}

func (s *script) less() {
	s.say("n Not x0")
	s.say("c And n y0")
	for k := 1; k <= 62; k++ {
		s.say("n Not x%d", k)
		s.carry("n", fmt.Sprintf("y%d", k))
	}
	s.say("n Not y63")
	s.carry("x63", "n")
}

// spoken: the chapter's words, gate by gate.
func spoken(kind int, forms uint64) circ.Circuit {
	s := newScript("xy"[:operandsOf(kind)])
	s.operand("x", forms&1 == 1)
	if kind != api.GarbRelu {
		s.operand("y", forms&2 == 2)
	}
	s.say("zero Xor first first")
	var outs []int
	out := func(name string) { outs = append(outs, s.wires[name]) }
	switch kind {
	case api.GarbRelu:
		s.say("n Not x63")
		for k := 0; k <= 62; k++ {
			s.say("o And n x%d", k)
			out("o")
		}
		out("zero")
	case api.GarbLess:
		s.less()
		out("c")
		for range 63 {
			out("zero")
		}
	case api.GarbMax:
		s.less()
		s.wires["s"] = s.wires["c"]
		for k := 0; k <= 63; k++ {
			s.say("t Xor y%d x%d", k, k)
			s.say("u And s t")
			s.say("o Xor x%d u", k)
			out("o")
		}
	}
	return circ.Circuit{Inputs: s.inputs, Gates: s.gates, Outs: outs}
}

func TestMadeGateByGate(t *testing.T) {
	everyMade(func(kind int, forms uint64) {
		c, want := mustMake(t, kind, forms), spoken(kind, forms)
		if c.Inputs != want.Inputs || len(c.Gates) != len(want.Gates) {
			t.Fatalf("kind %d, forms %d: %d inputs, %d gates, want %d, %d", kind, forms, c.Inputs, len(c.Gates), want.Inputs, len(want.Gates))
		}
		for i, g := range want.Gates {
			if c.Gates[i] != g {
				t.Fatalf("kind %d, forms %d: gate %d: %v, want %v", kind, forms, i, c.Gates[i], g)
			}
		}
		if !slices.Equal(c.Outs, want.Outs) {
			t.Errorf("kind %d, forms %d: outs %v, want %v", kind, forms, c.Outs, want.Outs)
		}
	})
}

// Gates written out by hand, by their wires: what the script above reads could be wrong as well.
func TestMadeGatesByHand(t *testing.T) {
	const x, a, n = circ.Xor, circ.And, circ.Not
	check := func(kind int, forms uint64, wire int, want ...circ.Gate) {
		t.Helper()
		c := mustMake(t, kind, forms)
		for i, g := range want {
			if got := c.Gates[wire-c.Inputs+i]; got != g {
				t.Errorf("kind %d, forms %d: wire %d: %v, want %v", kind, forms, wire+i, got, g)
			}
		}
	}
	// One operand by sums: its bit k from 1 to 62 has six gates from the wire 130 + 6 (k - 1) on.
	check(api.GarbRelu, 0, 128, []circ.Gate{
		{x, 0, 64}, {a, 0, 64}, {x, 1, 65}, {x, 130, 129}, {x, 1, 129}, {x, 65, 129}, {a, 132, 133}, {x, 129, 134}, {x, 2, 66}, {x, 136, 135},
	}...)
	check(api.GarbRelu, 0, 496, []circ.Gate{
		{x, 62, 126}, {x, 496, 495}, {x, 62, 495}, {x, 126, 495}, {a, 498, 499}, {x, 495, 500},
		{x, 63, 127}, {x, 502, 501}, {x, 0, 0}, {n, 503, 0}, {a, 505, 128}, {a, 505, 131}, {a, 505, 137},
	}...)
	check(api.GarbRelu, 0, 568, circ.Gate{Kind: a, A: 505, B: 497})
	check(api.GarbRelu, 1, 128, []circ.Gate{{x, 0, 64}, {x, 1, 65}, {x, 2, 66}}...)
	check(api.GarbRelu, 1, 191, []circ.Gate{{x, 63, 127}, {x, 0, 0}, {n, 191, 0}, {a, 193, 128}, {a, 193, 129}}...)
	check(api.GarbLess, 3, 319, []circ.Gate{
		{x, 63, 127}, {x, 128, 192},
	}...)
	check(api.GarbLess, 3, 383, []circ.Gate{
		{x, 191, 255}, {x, 0, 0}, {n, 256, 0}, {a, 385, 320}, {n, 257, 0}, {x, 387, 386}, {x, 321, 386}, {a, 388, 389}, {x, 386, 390}, {n, 258, 0},
	}...)
	check(api.GarbLess, 3, 692, []circ.Gate{
		{n, 318, 0}, {x, 692, 691}, {x, 382, 691}, {a, 693, 694}, {x, 691, 695}, {n, 383, 0}, {x, 319, 696}, {x, 697, 696}, {a, 698, 699}, {x, 696, 700},
	}...)
	check(api.GarbMax, 3, 702, []circ.Gate{{x, 320, 256}, {a, 701, 702}, {x, 256, 703}, {x, 321, 257}, {a, 701, 705}, {x, 257, 706}}...)
	check(api.GarbMax, 3, 891, []circ.Gate{{x, 383, 319}, {a, 701, 891}, {x, 319, 892}}...)
	// The second operand's form is the bit 1, the first one's the bit 0.
	check(api.GarbLess, 1, 256, []circ.Gate{{x, 0, 64}, {x, 1, 65}}...)
	check(api.GarbLess, 1, 320, []circ.Gate{{x, 128, 192}, {a, 128, 192}, {x, 129, 193}}...)
	check(api.GarbLess, 2, 256, []circ.Gate{{x, 0, 64}, {a, 0, 64}, {x, 1, 65}}...)
	check(api.GarbLess, 2, 632, []circ.Gate{{x, 128, 192}, {x, 129, 193}}...)
}

func TestMadeSizes(t *testing.T) {
	for _, x := range []struct {
		kind                int
		forms               uint64
		inputs, gates, ands int
		firstOut, lastOut   int
	}{
		{api.GarbRelu, 0, 128, 441, 126, 506, 504}, {api.GarbRelu, 1, 128, 129, 63, 194, 192},
		{api.GarbLess, 0, 256, 1070, 190, 1325, 1008}, {api.GarbLess, 1, 256, 758, 127, 1013, 696}, {api.GarbLess, 2, 256, 758, 127, 1013, 696}, {api.GarbLess, 3, 256, 446, 64, 701, 384},
		{api.GarbMax, 0, 256, 1262, 254, 1328, 1517}, {api.GarbMax, 1, 256, 950, 191, 1016, 1205}, {api.GarbMax, 2, 256, 950, 191, 1016, 1205}, {api.GarbMax, 3, 256, 638, 128, 704, 893},
	} {
		c := mustMake(t, x.kind, x.forms)
		if c.Inputs != x.inputs || len(c.Gates) != x.gates || circ.Ands(c) != x.ands || len(c.Outs) != 64 {
			t.Errorf("kind %d, forms %d: %d inputs, %d gates, %d of them And, %d outs", x.kind, x.forms, c.Inputs, len(c.Gates), circ.Ands(c), len(c.Outs))
		}
		if circ.Ands(c) > 400 {
			t.Errorf("kind %d, forms %d: %d And gates", x.kind, x.forms, circ.Ands(c))
		}
		if c.Outs[0] != x.firstOut || c.Outs[63] != x.lastOut {
			t.Errorf("kind %d, forms %d: outs from %d to %d", x.kind, x.forms, c.Outs[0], c.Outs[63])
		}
	}
}

func TestKindsAndFormsThatAreNot(t *testing.T) {
	check := func(kind int, forms uint64) {
		t.Helper()
		c, err := circ.Make(kind, forms)
		if fault.Code(err) != api.ErrRange || c.Inputs != 0 || c.Gates != nil || c.Outs != nil {
			t.Errorf("Make(%d, %d): %v, %v", kind, forms, c, err)
		}
	}
	allForms := []uint64{0, 1, 2, 3, 4, 5, 7, 8, 1 << 8, 1<<8 + 1, 1 << 32, 1<<32 + 1, 1 << 62, 1 << 63, 1<<63 + 1, 1<<63 + 3, math.MaxUint64 - 1, math.MaxUint64}
	for _, kind := range append(far(), 0, 4, 5, 6, 1<<32+2, 1<<32+3, 257, 258, 259) {
		for _, forms := range allForms {
			check(kind, forms)
		}
	}
	for _, forms := range allForms {
		for kind, greatest := range map[int]uint64{api.GarbRelu: 1, api.GarbLess: 3, api.GarbMax: 3} {
			if forms > greatest {
				check(kind, forms)
			} else {
				mustMake(t, kind, forms)
			}
		}
	}
}

func clone(c circ.Circuit) circ.Circuit {
	return circ.Circuit{Inputs: c.Inputs, Gates: slices.Clone(c.Gates), Outs: slices.Clone(c.Outs)}
}

func same(c, d circ.Circuit) bool {
	return c.Inputs == d.Inputs && slices.Equal(c.Gates, d.Gates) && slices.Equal(c.Outs, d.Outs)
}

// spoil writes up to the end of the spare room.
func spoil[T any](l []T, with T) {
	for i := range l[:cap(l)] {
		l[:cap(l)][i] = with
	}
}

// roomy: a list with spare room behind it, which holds the thing.
func roomy[T any](l []T, behind T) []T {
	room := append(slices.Clone(l), behind, behind, behind)
	return room[:len(l)]
}

// What is handed in stays, spare room included, whether it is taken or refused.
func TestWhatIsHandedInStays(t *testing.T) {
	s := noise(7)
	for range 300 {
		c := s.circuit(1+s.below(20), s.below(20), s.below(20))
		if s.below(3) == 0 && len(c.Gates) > 0 {
			c.Gates[s.below(len(c.Gates))].A = far()[s.below(len(far()))]
		}
		bits := s.bits(c.Inputs + s.below(2))
		c.Gates, c.Outs = roomy(c.Gates, circ.Gate{Kind: 77, A: 78, B: 79}), roomy(c.Outs, 80)
		in := roomy(bits, true)
		kept, room := clone(c), clone(circ.Circuit{Gates: c.Gates[:cap(c.Gates)], Outs: c.Outs[:cap(c.Outs)]})
		keptIn := slices.Clone(in[:cap(in)])
		circ.Check(c)
		circ.Eval(c, in)
		circ.Ands(c)
		circ.Word(in)
		if !same(c, kept) || !same(circ.Circuit{Gates: c.Gates[:cap(c.Gates)], Outs: c.Outs[:cap(c.Outs)]}, room) || !slices.Equal(in[:cap(in)], keptIn) {
			t.Fatalf("what was handed in is changed: %v, %v", c, in)
		}
	}
}

// An answer stays, whatever becomes of what was handed in, and of other answers.
func TestAnswersAreNewMemory(t *testing.T) {
	s := noise(8)
	for range 200 {
		inputs := 1 + s.below(64)
		c := s.circuit(inputs, s.below(20), s.below(65))
		if s.below(2) == 0 { // the outs are the inputs, just so
			c = circ.Circuit{Inputs: inputs}
			for i := range inputs {
				c.Outs = append(c.Outs, i)
			}
		}
		in := s.bits(inputs)
		kept, keptIn := clone(c), slices.Clone(in)
		first, _ := circ.Eval(c, in)
		want := slices.Clone(first)
		spoil(in, true)
		spoil(c.Gates, circ.Gate{})
		spoil(c.Outs, -1)
		second, _ := circ.Eval(kept, keptIn)
		spoil(second, false)
		if !slices.Equal(first, want) {
			t.Fatalf("an answer changed: %v, want %v", first, want)
		}
		spoil(first, true)
		checkEval(t, kept, keptIn, want)
	}
}

func TestMadeCircuitsAreNewMemory(t *testing.T) {
	everyMade(func(kind int, forms uint64) {
		want := spoken(kind, forms)
		first, second := mustMake(t, kind, forms), mustMake(t, kind, forms)
		spoil(first.Gates, circ.Gate{})
		spoil(first.Outs, -1)
		if !same(second, want) {
			t.Errorf("kind %d, forms %d: two answers share memory", kind, forms)
		}
		// Both lists of one answer, written over up to their ends, keep apart.
		spoil(second.Outs, -1)
		if !slices.Equal(second.Gates, want.Gates) || !same(mustMake(t, kind, forms), want) {
			t.Errorf("kind %d, forms %d: an answer's lists share memory, or it is kept", kind, forms)
		}
	})
	for _, x := range words() {
		first, second := circ.Bits(x), circ.Bits(x)
		want := slices.Clone(second)
		spoil(first, true)
		if !slices.Equal(second, want) || !slices.Equal(circ.Bits(x), want) {
			t.Errorf("Bits of %d: two answers share memory", x)
		}
	}
}

// What is handed in isn't kept.
func TestWhatIsHandedInIsLetGo(t *testing.T) {
	s := noise(9)
	c := s.circuit(50, 100, 10)
	in := s.bits(50)
	gates, outs, bits := weak.Make(unsafe.SliceData(c.Gates)), weak.Make(unsafe.SliceData(c.Outs)), weak.Make(unsafe.SliceData(in))
	l, err := circ.Eval(c, in)
	checked := circ.Check(circ.Circuit{Inputs: -1, Gates: c.Gates, Outs: c.Outs})
	refused := circ.Check(circ.Circuit{Inputs: 50, Gates: c.Gates, Outs: c.Outs[:1]})
	c, in = circ.Circuit{}, nil
	for range 5 {
		runtime.GC()
	}
	if gates.Value() != nil || outs.Value() != nil || bits.Value() != nil {
		t.Error("what was handed in is kept")
	}
	if len(l) != 10 || err != nil || fault.Code(checked) != api.ErrCircuit || refused != nil {
		t.Errorf("the answers: %v, %v, %v, %v", l, err, checked, refused)
	}
}

// The same call answers the same, whatever was called between.
func TestCallsAreAlike(t *testing.T) {
	s := noise(10)
	c := s.circuit(5, 20, 7)
	in := s.bits(5)
	want, _ := circ.Eval(c, in)
	broken := circ.Circuit{Inputs: 1, Gates: []circ.Gate{{}}}
	first, firstMade := circ.Check(broken), func() error { _, err := circ.Make(9, 9); return err }()
	for range 5 {
		everyMade(func(kind int, forms uint64) {
			if !same(mustMake(t, kind, forms), spoken(kind, forms)) {
				t.Errorf("kind %d, forms %d: another answer", kind, forms)
			}
		})
		other := s.circuit(7, 20, 9)
		checkTold(t, other, s.bits(7))
		checkEval(t, c, in, want)
		_, made := circ.Make(9, 9)
		if err := circ.Check(broken); err.Error() != first.Error() || made.Error() != firstMade.Error() {
			t.Errorf("other errors: %v, %v", err, made)
		}
	}
}

// The numbers are found by errors.Is and errors.As as well.
func TestErrorsAreWrapped(t *testing.T) {
	_, short := circ.Eval(circ.Circuit{Inputs: 1}, nil)
	_, made := circ.Make(0, 0)
	for _, x := range []struct {
		err  error
		want api.Errno
	}{{circ.Check(circ.Circuit{Inputs: -1}), api.ErrCircuit}, {short, api.ErrRange}, {made, api.ErrRange}} {
		var code api.Errno
		if !errors.Is(x.err, x.want) || !errors.As(x.err, &code) || code != x.want {
			t.Errorf("%v isn't %d", x.err, x.want)
		}
	}
}

// isCircuit: the chapter's words once more, gate by gate, with the wires that are there so far in a set.
func isCircuit(c circ.Circuit) bool {
	if c.Inputs < 0 || c.Inputs > 4096 || len(c.Gates) > 4096 || len(c.Outs) > 64 {
		return false
	}
	there := map[int]struct{}{}
	for i := range c.Inputs {
		there[i] = struct{}{}
	}
	for _, g := range c.Gates {
		_, a := there[g.A]
		_, b := there[g.B]
		switch {
		case g.Kind == 3 && a && g.B == 0:
		case (g.Kind == 1 || g.Kind == 2) && a && b:
		default:
			return false
		}
		there[len(there)] = struct{}{}
	}
	for _, w := range c.Outs {
		if _, ok := there[w]; !ok {
			return false
		}
	}
	return true
}

// checkAny: a circuit or none: each call ends, and answers by the words.
func checkAny(t *testing.T, c circ.Circuit, in []bool) {
	t.Helper()
	if !isCircuit(c) {
		checkRefused(t, fmt.Sprint(c), c)
		circ.Ands(c)
		return
	}
	if err := circ.Check(c); err != nil {
		t.Fatalf("Check of %v: %v", c, err)
	}
	if len(in) == c.Inputs {
		checkTold(t, c, in)
	} else if l, err := circ.Eval(c, in); fault.Code(err) != api.ErrRange || l != nil {
		t.Fatalf("Eval of %v, %d bits: %v, %v", c, len(in), l, err)
	}
}

func TestCircuitsWithFaults(t *testing.T) {
	s, good, bad := noise(11), 0, 0
	for range 5000 {
		c := s.circuit(1+s.below(4), s.below(5), s.below(5))
		for range s.below(3) {
			off := s.below(c.Inputs+len(c.Gates)+3) - 1
			switch s.below(5) {
			case 0:
				c.Inputs = s.below(5) - 1
			case 1:
				c.Outs = append(c.Outs, off)
			default:
				c.Gates = append(c.Gates, circ.Gate{Kind: circ.GateKind(s.below(5)), A: off, B: s.below(3)})
			}
		}
		if isCircuit(c) {
			good++
		} else {
			bad++
		}
		checkAny(t, c, s.bits(max(c.Inputs, 0)+s.below(5)/4))
	}
	if good < 500 || bad < 500 {
		t.Errorf("%d circuits, %d that are none", good, bad)
	}
}

// FuzzCircuit takes a circuit, bits and Make's numbers out of the bytes.
func FuzzCircuit(f *testing.F) {
	f.Add(2, []byte{2, 0, 1, 3, 2, 0}, []byte{3}, []byte{1, 1}, 1, uint64(1))
	f.Add(-1, []byte{}, []byte{}, []byte{}, 0, uint64(4))
	f.Add(math.MaxInt, []byte{1, 0, 0}, []byte{0}, []byte{1}, math.MinInt, uint64(math.MaxUint64))
	f.Fuzz(func(t *testing.T, inputs int, gates, outs, bits []byte, kind int, forms uint64) {
		c := circ.Circuit{Inputs: inputs}
		for i := range len(gates) / 3 {
			c.Gates = append(c.Gates, circ.Gate{Kind: circ.GateKind(int8(gates[3*i])), A: int(int8(gates[3*i+1])), B: int(int8(gates[3*i+2]))})
		}
		for _, w := range outs {
			c.Outs = append(c.Outs, int(int8(w)))
		}
		in := make([]bool, len(bits))
		for i := range in {
			in[i] = bits[i]%2 == 1
		}
		checkAny(t, c, in)
		m, err := circ.Make(kind, forms)
		if known := kind == 1 && forms < 2 || (kind == 2 || kind == 3) && forms < 4; known != (err == nil) {
			t.Fatalf("Make(%d, %d): %v", kind, forms, err)
		} else if known && !same(m, spoken(kind, forms)) {
			t.Fatalf("Make(%d, %d) isn't what the chapter says", kind, forms)
		}
	})
}
