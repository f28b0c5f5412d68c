package micro

import (
	"twain/api"
	"twain/fault"
)

// maxElems is the greatest number of elements of a party's inputs.
const maxElems = 1 << 16

// form: how a word is shared.
type form int

// The forms. The first one is that of a word that isn't there: one that no kind wants, or that no operation may want.
const (
	noWord form = iota
	arithmetic
	boolean
	either
)

// suits: may a word of this form stand where that one is wanted?
func (f form) suits(wanted form) bool { return f == wanted || f == either }

// rule: what an operation wants and makes, but for its K.
type rule struct {
	a, b, makes form
	party, c    bool // are Party and C wanted?
	rounds      int
}

// ruleOf: the rule of an operation's kind, if there is one.
func ruleOf(op api.Op) (rule, bool) {
	switch op.Kind {
	case api.OpIn:
		return rule{makes: arithmetic, party: true, rounds: 1}, true
	case api.OpConst:
		return rule{makes: either, c: true}, true
	case api.OpAdd, api.OpSub:
		return rule{a: arithmetic, b: arithmetic, makes: arithmetic}, true
	case api.OpMulC:
		return rule{a: arithmetic, makes: arithmetic, c: true}, true
	case api.OpMul:
		return rule{a: arithmetic, b: arithmetic, makes: arithmetic, rounds: 1}, true
	case api.OpXor:
		return rule{a: boolean, b: boolean, makes: boolean}, true
	case api.OpXorC, api.OpAndC:
		return rule{a: boolean, makes: boolean, c: true}, true
	case api.OpAnd:
		return rule{a: boolean, b: boolean, makes: boolean, rounds: 1}, true
	case api.OpShl, api.OpShr, api.OpSar, api.OpSpread:
		return rule{a: boolean, makes: boolean}, true
	case api.OpMine:
		return rule{a: arithmetic, makes: boolean, party: true}, true
	case api.OpBit:
		return rule{a: boolean, makes: arithmetic, party: true}, true
	case api.OpGarb:
		return garbRule(op)
	case api.OpOut:
		return rule{a: arithmetic, rounds: 1}, true
	case api.OpOutB:
		return rule{a: boolean, rounds: 1}, true
	}
	return rule{}, false
}

// garbRule: the rule of an OpGarb, if there is a circuit of its K and C.
func garbRule(op api.Op) (rule, bool) {
	r := rule{a: formAt(op.C, 0), makes: boolean, c: true, rounds: 2}
	switch op.K {
	case api.GarbRelu:
		return r, op.C <= 1
	case api.GarbLess, api.GarbMax:
		r.b = formAt(op.C, 1)
		return r, op.C <= 3
	}
	return rule{}, false
}

// formAt: the form of a circuit's operand, as its bit of forms says.
func formAt(forms uint64, operand int) form {
	if forms>>operand&1 == 1 {
		return boolean
	}
	return arithmetic
}

// operands: the places of the words that an operation of a program wants.
func operands(op api.Op) []int {
	r, _ := ruleOf(op)
	var places []int
	if r.a != noWord {
		places = append(places, op.A)
	}
	if r.b != noWord {
		places = append(places, op.B)
	}
	return places
}

// Check: is it a program?
func Check(ops []api.Op, elems [2]int) error {
	for party, n := range elems {
		if n < 0 || n > maxElems {
			return fault.Wrap(api.ErrMicro, "elems", party)
		}
	}
	if len(ops) > api.MaxOps {
		return fault.Wrap(api.ErrMicro, "ops", len(ops))
	}
	made := make([]form, 0, len(ops))
	for i, op := range ops {
		r, ok := ruleOf(op)
		if !ok || !r.takes(op, made) || !takesK(op, elems) {
			return fault.Wrap(api.ErrMicro, "op", i)
		}
		made = append(made, r.makes)
	}
	return checkOuts(ops)
}

// isProgram: is it a program for inputs of some numbers of elements? What is one for few elements is one for more.
func isProgram(ops []api.Op) bool {
	return Check(ops, [2]int{maxElems, maxElems}) == nil
}

// takes: does the rule take the operation's A, B, Party and C, with words of these forms made ahead of it?
func (r rule) takes(op api.Op, made []form) bool {
	if !takesPlace(op.A, r.a, made) || !takesPlace(op.B, r.b, made) {
		return false
	}
	if op.Party != 0 && !(r.party && op.Party == 1) {
		return false
	}
	return r.c || op.C == 0
}

// takesPlace: does a word of the wanted form stand there? Where none is wanted the place is 0.
func takesPlace(place int, wanted form, made []form) bool {
	if wanted == noWord {
		return place == 0
	}
	return place >= 0 && place < len(made) && made[place].suits(wanted)
}

// takesK: may an operation whose Party is one have this K? Those of OpOut and OpOutB are looked at together, by checkOuts, and an OpGarb's by its rule.
func takesK(op api.Op, elems [2]int) bool {
	switch op.Kind {
	case api.OpIn:
		return op.K >= 0 && op.K < elems[op.Party]
	case api.OpShl, api.OpShr, api.OpSar, api.OpBit:
		return op.K >= 0 && op.K < wordBits
	case api.OpGarb, api.OpOut, api.OpOutB:
		return true
	}
	return op.K == 0
}

// checkOuts: has each number of the OpOut and OpOutB, from 0 on, come once?
func checkOuts(ops []api.Op) error {
	n := 0
	for _, op := range ops {
		if isOut(op) {
			n++
		}
	}
	// As there are as many numbers as operations, none lacks where none comes twice.
	seen := make([]bool, n)
	for i, op := range ops {
		if !isOut(op) {
			continue
		}
		if op.K < 0 || op.K >= n || seen[op.K] {
			return fault.Wrap(api.ErrMicro, "out", i)
		}
		seen[op.K] = true
	}
	return nil
}
