package circ

import (
	"twain/api"
	"twain/fault"
)

// top is the highest bit of a word: its sign.
const top = wordBits - 1

// row: the wires of a word's bits, the lowest first.
type row [wordBits]int

// Make: the circuit of a garbled operation.
func Make(kind int, forms uint64) (Circuit, error) {
	// A kind with more forms stands ahead of one with fewer: so forms that its own kind refuses are refused all the way down.
	switch kind {
	case api.GarbMax:
		if forms <= 3 {
			return makeMax(forms), nil
		}
		fallthrough
	case api.GarbLess:
		if forms <= 3 {
			return makeLess(forms), nil
		}
		fallthrough
	case api.GarbRelu:
		if forms <= 1 {
			return makeRelu(forms), nil
		}
		fallthrough
	default:
		return Circuit{}, fault.Wrap(api.ErrRange, "kind", kind)
	}
}

// makeRelu: x, if it isn't below 0, else 0.
func makeRelu(forms uint64) Circuit {
	m := newMaker(1)
	x := m.operand(0, forms)
	zero := m.zero()
	n := m.not(x[top])
	var outs row
	for k := range top {
		outs[k] = m.and(n, x[k])
	}
	outs[top] = zero
	return m.circuit(outs)
}

// makeLess: 1, if x is less than y, else 0.
func makeLess(forms uint64) Circuit {
	m := newMaker(2)
	x := m.operand(0, forms)
	y := m.operand(1, forms)
	zero := m.zero()
	var outs row
	for k := range outs {
		outs[k] = zero
	}
	outs[0] = m.less(x, y)
	return m.circuit(outs)
}

// makeMax: the greater one of x and y.
func makeMax(forms uint64) Circuit {
	m := newMaker(2)
	x := m.operand(0, forms)
	y := m.operand(1, forms)
	m.zero() // no out wants it, but each circuit has it
	s := m.less(x, y)
	var outs row
	for k := range outs {
		t := m.xor(y[k], x[k])
		u := m.and(s, t)
		outs[k] = m.xor(x[k], u)
	}
	return m.circuit(outs)
}

// maker: a circuit's inputs, and its gates so far.
type maker struct {
	inputs int
	gates  []Gate
}

// newMaker: no gates yet, and two shares' bits of each operand.
func newMaker(operands int) *maker {
	return &maker{inputs: 2 * wordBits * operands}
}

// circuit: what was made, with these outs.
func (m *maker) circuit(outs row) Circuit {
	return Circuit{Inputs: m.inputs, Gates: m.gates, Outs: outs[:]}
}

// add lays a gate behind the others and tells its wire.
func (m *maker) add(kind GateKind, a, b int) int {
	wire := m.inputs + len(m.gates)
	m.gates = append(m.gates, Gate{Kind: kind, A: a, B: b})
	return wire
}

func (m *maker) xor(a, b int) int { return m.add(Xor, a, b) }
func (m *maker) and(a, b int) int { return m.add(And, a, b) }
func (m *maker) not(a int) int    { return m.add(Not, a, 0) }

// zero: a wire that is 0, whatever comes in.
func (m *maker) zero() int { return m.xor(0, 0) }

// share: the wires of an operand's share that a party has.
func share(operand, party int) row {
	var r row
	for k := range r {
		r[k] = (2*operand+party)*wordBits + k
	}
	return r
}

// operand: the wires of the word that both shares make, by the form that its bit of forms says.
func (m *maker) operand(number int, forms uint64) row {
	a, b := share(number, 0), share(number, 1)
	if forms>>number&1 == 1 {
		return m.exclusive(a, b)
	}
	return m.sum(a, b)
}

// exclusive: the exclusive or of two words.
func (m *maker) exclusive(a, b row) row {
	var word row
	for k := range word {
		word[k] = m.xor(a[k], b[k])
	}
	return word
}

// sum: the sum of two words, modulo 2^64.
func (m *maker) sum(a, b row) row {
	var word row
	word[0] = m.xor(a[0], b[0])
	c := m.and(a[0], b[0])
	for k := 1; k < top; k++ {
		word[k] = m.xor(m.xor(a[k], b[k]), c)
		c = m.carry(a[k], b[k], c)
	}
	// Nothing is carried out of the highest bit.
	word[top] = m.xor(m.xor(a[top], b[top]), c)
	return word
}

// carry: 1 where at least two of the three are 1, by one And.
func (m *maker) carry(u, v, c int) int {
	p := m.xor(u, c)
	q := m.xor(v, c)
	r := m.and(p, q)
	return m.xor(c, r)
}

// less: whether x is less than y: what y and the turned bits of x carry out of their highest bit. As that one counts below 0, x and y change places there.
func (m *maker) less(x, y row) int {
	n := m.not(x[0])
	c := m.and(n, y[0])
	for k := 1; k < top; k++ {
		n = m.not(x[k])
		c = m.carry(n, y[k], c)
	}
	n = m.not(y[top])
	return m.carry(x[top], n, c)
}
