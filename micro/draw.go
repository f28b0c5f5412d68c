package micro

import (
	"twain/api"
	"twain/corr"
	"twain/fault"
	"twain/tape"
)

// lot: what a party drew for one operation; what its kind doesn't draw is zero.
type lot struct {
	word   uint64
	triple api.Triple // or bit triple
	ots    []api.OT
	zeros  []api.Label
}

// hand: all that a party drew ahead of a run: delta, and a lot for each operation.
type hand struct {
	delta api.Label
	lots  []lot
}

// draw: a party's hand.
func draw(ops []api.Op, party int, t *tape.Tape, s *corr.Stock) (hand, error) {
	h := hand{lots: make([]lot, 0, len(ops))}
	if party == 0 && garbles(ops) {
		delta, err := t.Label()
		if err != nil {
			return hand{}, fault.Wrap(err, "delta", party)
		}
		delta[0] |= 1 // its colour
		h.delta = delta
	}
	for i, op := range ops {
		l, err := drawLot(op, party, t, s)
		if err != nil {
			return hand{}, fault.Wrap(fault.Wrap(err, "op", i), "party", party)
		}
		h.lots = append(h.lots, l)
	}
	return h, nil
}

// garbles: is there an OpGarb?
func garbles(ops []api.Op) bool {
	for _, op := range ops {
		if op.Kind == api.OpGarb {
			return true
		}
	}
	return false
}

// drawLot: what a party draws for an operation.
func drawLot(op api.Op, party int, t *tape.Tape, s *corr.Stock) (lot, error) {
	var l lot
	var err error
	switch op.Kind {
	case api.OpIn:
		if op.Party == party {
			l.word, err = t.Next()
		}
	case api.OpMul:
		l.triple, err = s.Triple()
	case api.OpAnd:
		l.triple, err = s.Bits()
	case api.OpGarb:
		n := len(operands(op))
		l.ots, err = several(wordBits*n, s.OT)
		if err == nil && party == 0 {
			l.zeros, err = several(bothShares*n, t.Label)
		}
	}
	return l, err
}

// several: so many things, each of them what next answers.
func several[T any](n int, next func() (T, error)) ([]T, error) {
	things := make([]T, 0, n)
	for range n {
		thing, err := next()
		if err != nil {
			return nil, err
		}
		things = append(things, thing)
	}
	return things, nil
}
