package micro

import (
	"twain/api"
	"twain/circ"
	"twain/corr"
	"twain/fault"
	"twain/garble"
	"twain/ring"
	"twain/tape"
)

// shared: both parties' shares of a word.
type shared [2]uint64

func (w shared) sum() uint64       { return w[0] + w[1] }
func (w shared) exclusive() uint64 { return w[0] ^ w[1] }

// told: both have the word.
func told(word uint64) shared { return shared{word, word} }

// Sim: each party's words.
func Sim(ops []api.Op, elems [2]int, in [2][]uint64, tapes [2]*tape.Tape, stocks [2]*corr.Stock) ([2][]uint64, error) {
	if err := Check(ops, elems); err != nil {
		return [2][]uint64{}, err
	}
	for party, words := range in {
		if len(words) != elems[party] {
			return [2][]uint64{}, fault.Wrap(api.ErrInput, "inputs", party)
		}
	}
	var hands [2]hand
	for party := range hands {
		h, err := draw(ops, party, tapes[party], stocks[party])
		if err != nil {
			return [2][]uint64{}, err
		}
		hands[party] = h
	}
	s := sim{in: in, hands: hands, made: circuits{}, words: make([]shared, 0, len(ops))}
	for i, op := range ops {
		s.words = append(s.words, s.step(i, op))
	}
	return [2][]uint64{s.sharesOf(0), s.sharesOf(1)}, nil
}

// sim: a run of both parties in one place, so far.
type sim struct {
	in    [2][]uint64
	hands [2]hand
	made  circuits
	words []shared
}

// sharesOf: a party's share of each word.
func (s *sim) sharesOf(party int) []uint64 {
	shares := make([]uint64, len(s.words))
	for i, w := range s.words {
		shares[i] = w[party]
	}
	return shares
}

// step: the shares of what the operation at this place makes.
func (s *sim) step(place int, op api.Op) shared {
	places := operands(op)
	var x [2]shared
	for i, from := range places {
		x[i] = s.words[from]
	}
	a, b := x[0], x[1]
	lots := [2]lot{s.hands[0].lots[place], s.hands[1].lots[place]}
	switch op.Kind {
	case api.OpIn:
		return input(op.Party, s.in[op.Party][op.K], lots[op.Party].word)
	case api.OpMul:
		return product(a, b, lots[0].triple, lots[1].triple)
	case api.OpAnd:
		return bitwise(a, b, lots[0].triple, lots[1].triple)
	case api.OpGarb:
		return s.garbled(place, op, x[:len(places)], lots)
	case api.OpOut:
		return told(a.sum())
	case api.OpOutB:
		return told(a.exclusive())
	}
	return shared{own(op, 0, a[0], b[0]), own(op, 1, a[1], b[1])}
}

// input: the owner has the word that it drew, the other one what lacks.
func input(owner int, element, drawn uint64) shared {
	var w shared
	w[owner], w[1-owner] = drawn, element-drawn
	return w
}

// product: by both parties' shares of a triple.
func product(a, b shared, s, t api.Triple) shared {
	d := a.sum() - (s.A + t.A)
	e := b.sum() - (s.B + t.B)
	return shared{s.C + d*s.B + e*s.A + d*e, t.C + d*t.B + e*t.A}
}

// bitwise: And, by both parties' shares of a bit triple.
func bitwise(a, b shared, s, t api.Triple) shared {
	d := a.exclusive() ^ s.A ^ t.A
	e := b.exclusive() ^ s.B ^ t.B
	return shared{s.C ^ d&s.B ^ e&s.A ^ d&e, t.C ^ d&t.B ^ e&t.A}
}

// own: what a party makes of its own shares, without the other one.
func own(op api.Op, party int, a, b uint64) uint64 {
	switch op.Kind {
	case api.OpConst:
		return ofFirst(party, op.C)
	case api.OpAdd:
		return a + b
	case api.OpSub:
		return a - b
	case api.OpMulC:
		return a * op.C
	case api.OpXor:
		return a ^ b
	case api.OpXorC:
		return a ^ ofFirst(party, op.C)
	case api.OpAndC:
		return a & op.C
	case api.OpShl:
		return a << op.K
	case api.OpShr:
		return a >> op.K
	case api.OpSar:
		return ring.Floor(a, op.K)
	case api.OpSpread:
		return ring.Spread(a)
	case api.OpBit:
		a = a >> op.K & 1
		fallthrough
	case api.OpMine:
		if op.Party == party {
			return a
		}
	}
	return 0
}

// ofFirst: the party 0 has the word, the other one nothing.
func ofFirst(party int, word uint64) uint64 {
	if party == 0 {
		return word
	}
	return 0
}

// garbled: what a circuit makes of its operands: party 0 garbles, party 1 evaluates. A program's circuits, and what was drawn for them, fit together, so that garble refuses nothing here.
func (s *sim) garbled(place int, op api.Op, words []shared, lots [2]lot) shared {
	c, delta, zeros := s.made.of(op), s.hands[0].delta, lots[0].zeros
	first := uint64(place) << 32
	tables, outs, _ := garble.Garble(c, delta, zeros, first)
	labels := make([]api.Label, 0, len(zeros))
	for i, w := range words {
		sender, receiver := lots[0].ots[wordBits*i:wordBits*(i+1)], lots[1].ots[wordBits*i:wordBits*(i+1)]
		mine, yours := zeros[bothShares*i:bothShares*i+wordBits], zeros[bothShares*i+wordBits:bothShares*(i+1)]
		labels = append(labels, labelsOf(w[0], mine, delta)...)
		labels = append(labels, transferred(w[1], sender, receiver, yours, delta)...)
	}
	evaluated, _ := garble.Eval(c, labels, tables, first)
	return shared{garble.Colours(outs), garble.Colours(evaluated)}
}

// labelsOf: of a word's bits.
func labelsOf(word uint64, zeros []api.Label, delta api.Label) []api.Label {
	labels := make([]api.Label, len(zeros))
	for i, bit := range circ.Bits(word) {
		labels[i] = garble.Label(zeros[i], delta, bit)
	}
	return labels
}

// transferred: the labels of a word's bits that the receiver gets, while the sender doesn't learn the word.
func transferred(word uint64, sender, receiver []api.OT, zeros []api.Label, delta api.Label) []api.Label {
	ask, _ := garble.Ask(receiver, word)
	reply, _ := garble.Reply(sender, ask, zeros, delta)
	labels, _ := garble.Pick(receiver, word, reply)
	return labels
}
