package micro_test

import (
	"math"
	"slices"
	"strconv"
	"testing"

	"twain/api"
	"twain/circ"
	"twain/corr"
	"twain/fault"
	"twain/micro"
	"twain/tape"
)

// checkRefused: what is no program is none for each call.
func checkRefused(t *testing.T, ops []api.Op, elems [2]int) {
	t.Helper()
	if err := micro.Check(ops, elems); fault.Code(err) != api.ErrMicro {
		t.Fatalf("Check(%v, %v): %v", short(ops), elems, err)
	}
	in := [2][]uint64{make([]uint64, min(max(elems[0], 0), 9)), make([]uint64, min(max(elems[1], 0), 9))}
	tapes := [2]*tape.Tape{tape.New([16]byte{}, 1000), tape.New([16]byte{}, 1000)}
	stocks := [2]*corr.Stock{corr.Load(make([]api.Triple, 9), make([]api.Triple, 9), make([]api.OT, 999)), corr.Load(make([]api.Triple, 9), make([]api.Triple, 9), make([]api.OT, 999))}
	w, err := micro.Sim(ops, elems, in, tapes, stocks)
	if fault.Code(err) != api.ErrMicro || w[0] != nil || w[1] != nil {
		t.Fatalf("Sim(%v, %v): %v, %v", short(ops), elems, w, err)
	}
	for party := range tapes {
		triples, bits, ots := stocks[party].Left()
		if tapes[party].Used() != 0 || triples != 9 || bits != 9 || ots != 999 {
			t.Fatalf("Sim(%v, %v): something is used up", short(ops), elems)
		}
	}
}

// checkNone: a list that is no program, whatever the numbers of elements.
func checkNone(t *testing.T, ops []api.Op) {
	t.Helper()
	if r := micro.Rounds(ops); len(r) != 0 {
		t.Fatalf("Rounds(%v): %v", short(ops), r)
	}
	if n := micro.Need(ops); n != (api.Need{}) {
		t.Fatalf("Need(%v): %v", short(ops), n)
	}
	if o := micro.Outs(ops, make([]uint64, len(ops))); len(o) != 0 {
		t.Fatalf("Outs(%v): %v", short(ops), o)
	}
}

// checkProgram: a list that is a program for these numbers of elements has its rounds and needs.
func checkProgram(t *testing.T, ops []api.Op, elems [2]int) {
	t.Helper()
	if err := micro.Check(ops, elems); err != nil {
		t.Fatalf("Check(%v, %v): %v", short(ops), elems, err)
	}
	if got, want := micro.Rounds(ops), roundsOf(ops); !slices.Equal(got, want) {
		t.Fatalf("Rounds(%v): %v, want %v", short(ops), got, want)
	}
	if got, want := micro.Need(ops), needOf(ops); got != want {
		t.Fatalf("Need(%v): %v, want %v", short(ops), got, want)
	}
	shares := make([]uint64, len(ops))
	for i := range shares {
		shares[i] = uint64(1000 + i)
	}
	if got, want := micro.Outs(ops, shares), outsOf(ops, shares); !slices.Equal(got, want) {
		t.Fatalf("Outs(%v): %v, want %v", short(ops), got, want)
	}
}

// checkEither: as the reader says.
func checkEither(t *testing.T, ops []api.Op, elems [2]int) {
	t.Helper()
	if isProgram(ops, elems) {
		checkProgram(t, ops, elems)
		return
	}
	checkRefused(t, ops, elems)
	if !isProgram(ops, [2]int{mostElems, mostElems}) {
		checkNone(t, ops)
	}
}

// short: not more of a list than one can read.
func short(ops []api.Op) []api.Op { return ops[:min(len(ops), 20)] }

// sources: words of each form to make others of: arithmetic at 0 and 1, boolean at 2 and 3, either at 4, told at 5 and 6.
func sources() []api.Op {
	return []api.Op{
		{Kind: api.OpIn}, {Kind: api.OpIn, Party: 1, K: 1}, {Kind: api.OpMine, A: 0}, {Kind: api.OpMine, A: 1, Party: 1}, {Kind: api.OpConst, C: 9},
		{Kind: api.OpOut, A: 0}, {Kind: api.OpOutB, A: 2, K: 1},
	}
}

func TestExamples(t *testing.T) {
	ops := []api.Op{{Kind: api.OpIn}, {Kind: api.OpIn, Party: 1}, {Kind: api.OpMul, A: 0, B: 1}, {Kind: api.OpOut, A: 2}}
	stocks, err := corr.Deal(tape.Load([]uint64{1, 2, 3, 4, 5}), 1, 0, 0)
	if err != nil {
		t.Fatal(err)
	}
	tapes := [2]*tape.Tape{tape.Load([]uint64{10}), tape.Load([]uint64{20})}
	w, err := micro.Sim(ops, [2]int{1, 1}, [2][]uint64{{3}, {5}}, tapes, stocks)
	// d is 3 - 3, e is 5 - 7.
	want := [2][]uint64{{10, math.MaxUint64 - 14, 5 - 2*1, 15}, {math.MaxUint64 - 6, 20, 16 - 2*2, 15}}
	if err != nil || !slices.Equal(w[0], want[0]) || !slices.Equal(w[1], want[1]) {
		t.Errorf("Sim: %v, %v, want %v", w, err, want)
	}
	if r := micro.Rounds(ops); !slices.Equal(r, []int{1, 1, 2, 3}) {
		t.Errorf("Rounds: %v", r)
	}
	if n := micro.Need(ops); n != (api.Need{Triples: 1, Tape: [2]int{1, 1}, Rounds: 3, Words: [2]int{4, 4}}) {
		t.Errorf("Need: %v", n)
	}
	for party := range w {
		if o := micro.Outs(ops, w[party]); !slices.Equal(o, []uint64{15}) {
			t.Errorf("Outs of party %d: %v", party, o)
		}
	}
	bad := []api.Op{{Kind: api.OpConst}, {Kind: api.OpXor}, {Kind: api.OpAdd, A: 1, B: 1}}
	if err := micro.Check(bad, [2]int{}); fault.Code(err) != api.ErrMicro {
		t.Errorf("an OpAdd of an OpXor: %v", err)
	}
}

// Programs by hand, one of each kind, and what is next to them but none.
func TestTakenAndRefused(t *testing.T) {
	const maxInt, minInt = math.MaxInt, math.MinInt
	for _, x := range []struct {
		name   string
		op     api.Op
		wanted bool
	}{
		{"no kind", api.Op{}, false},
		{"the kind -1", api.Op{Kind: -1}, false},
		{"the kind 20", api.Op{Kind: 20}, false},
		{"a great kind", api.Op{Kind: maxInt}, false},
		{"a kind far below", api.Op{Kind: minInt}, false},
		{"a kind that cut to eight bits would do", api.Op{Kind: 256 + api.OpConst}, false},

		{"in", api.Op{Kind: api.OpIn, K: 1}, true},
		{"in of the last element", api.Op{Kind: api.OpIn, K: 4}, true},
		{"in beyond the last element", api.Op{Kind: api.OpIn, K: 5}, false},
		{"in of party 1's last element", api.Op{Kind: api.OpIn, K: 1, Party: 1}, true},
		{"in beyond party 1's last element", api.Op{Kind: api.OpIn, K: 2, Party: 1}, false},
		{"in below the first", api.Op{Kind: api.OpIn, K: -1}, false},
		{"in far below the first", api.Op{Kind: api.OpIn, K: minInt}, false},
		{"in of party 2", api.Op{Kind: api.OpIn, Party: 2}, false},
		{"in of party -1", api.Op{Kind: api.OpIn, Party: -1}, false},
		{"in of a great party", api.Op{Kind: api.OpIn, Party: maxInt}, false},
		{"in with an A", api.Op{Kind: api.OpIn, A: 1}, false},
		{"in with a B", api.Op{Kind: api.OpIn, B: 1}, false},
		{"in with a C", api.Op{Kind: api.OpIn, C: 1}, false},

		{"const", api.Op{Kind: api.OpConst, C: math.MaxUint64}, true},
		{"const with a party", api.Op{Kind: api.OpConst, Party: 1}, false},
		{"const with a K", api.Op{Kind: api.OpConst, K: 1}, false},
		{"const with an A", api.Op{Kind: api.OpConst, A: 4}, false},

		{"add", api.Op{Kind: api.OpAdd, A: 0, B: 1}, true},
		{"add of one with itself", api.Op{Kind: api.OpAdd, A: 1, B: 1}, true},
		{"add of a const", api.Op{Kind: api.OpAdd, A: 4, B: 1}, true},
		{"add of a boolean", api.Op{Kind: api.OpAdd, A: 2, B: 1}, false},
		{"add of a boolean B", api.Op{Kind: api.OpAdd, A: 0, B: 2}, false},
		{"add of itself", api.Op{Kind: api.OpAdd, A: 0, B: 7}, false},
		{"add of what is behind it", api.Op{Kind: api.OpAdd, A: 8, B: 0}, false},
		{"add of what isn't there", api.Op{Kind: api.OpAdd, A: 0, B: maxInt}, false},
		{"add of a place below 0", api.Op{Kind: api.OpAdd, A: -1, B: 0}, false},
		{"add of a place far below 0", api.Op{Kind: api.OpAdd, A: 0, B: minInt}, false},
		{"add of an out", api.Op{Kind: api.OpAdd, A: 5, B: 0}, false},
		{"add of a boolean out", api.Op{Kind: api.OpAdd, A: 0, B: 6}, false},
		{"add with a C", api.Op{Kind: api.OpAdd, C: 1}, false},
		{"add with a K", api.Op{Kind: api.OpAdd, K: 1}, false},
		{"add with a party", api.Op{Kind: api.OpAdd, Party: 1}, false},
		{"sub", api.Op{Kind: api.OpSub, A: 0, B: 4}, true},
		{"sub of a boolean", api.Op{Kind: api.OpSub, A: 0, B: 2}, false},

		{"mulc", api.Op{Kind: api.OpMulC, A: 1, C: 5}, true},
		{"mulc with a B", api.Op{Kind: api.OpMulC, A: 1, B: 1}, false},
		{"mulc of a boolean", api.Op{Kind: api.OpMulC, A: 2}, false},
		{"mul", api.Op{Kind: api.OpMul, A: 1, B: 4}, true},
		{"mul of a boolean", api.Op{Kind: api.OpMul, A: 1, B: 3}, false},
		{"mul with a C", api.Op{Kind: api.OpMul, C: 1 << 63}, false},

		{"xor", api.Op{Kind: api.OpXor, A: 2, B: 3}, true},
		{"xor of consts", api.Op{Kind: api.OpXor, A: 4, B: 4}, true},
		{"xor of an arithmetic", api.Op{Kind: api.OpXor, A: 2, B: 0}, false},
		{"xor of an out", api.Op{Kind: api.OpXor, A: 6, B: 2}, false},
		{"xorc", api.Op{Kind: api.OpXorC, A: 2, C: 7}, true},
		{"xorc of an arithmetic", api.Op{Kind: api.OpXorC, A: 0, C: 7}, false},
		{"xorc with a B", api.Op{Kind: api.OpXorC, A: 2, B: 2}, false},
		{"and", api.Op{Kind: api.OpAnd, A: 3, B: 4}, true},
		{"and of an arithmetic", api.Op{Kind: api.OpAnd, A: 3, B: 1}, false},
		{"andc", api.Op{Kind: api.OpAndC, A: 2, C: 7}, true},
		{"andc with a K", api.Op{Kind: api.OpAndC, A: 2, K: 7}, false},

		{"shl by 0", api.Op{Kind: api.OpShl, A: 2}, true},
		{"shl by 63", api.Op{Kind: api.OpShl, A: 2, K: 63}, true},
		{"shl by 64", api.Op{Kind: api.OpShl, A: 2, K: 64}, false},
		{"shl by -1", api.Op{Kind: api.OpShl, A: 2, K: -1}, false},
		{"shl with a party", api.Op{Kind: api.OpShl, A: 2, Party: 1}, false},
		{"shl of an arithmetic", api.Op{Kind: api.OpShl, A: 0}, false},
		{"shr by 63", api.Op{Kind: api.OpShr, A: 2, K: 63}, true},
		{"shr by 64", api.Op{Kind: api.OpShr, A: 2, K: 64}, false},
		{"sar by 63", api.Op{Kind: api.OpSar, A: 4, K: 63}, true},
		{"sar by 64", api.Op{Kind: api.OpSar, A: 4, K: 64}, false},
		{"sar by a great K", api.Op{Kind: api.OpSar, A: 4, K: maxInt}, false},
		{"spread", api.Op{Kind: api.OpSpread, A: 3}, true},
		{"spread with a K", api.Op{Kind: api.OpSpread, A: 3, K: 1}, false},

		{"mine", api.Op{Kind: api.OpMine, A: 1}, true},
		{"mine of party 1", api.Op{Kind: api.OpMine, A: 1, Party: 1}, true},
		{"mine of party 2", api.Op{Kind: api.OpMine, A: 1, Party: 2}, false},
		{"mine of a boolean", api.Op{Kind: api.OpMine, A: 2}, false},
		{"mine of a const", api.Op{Kind: api.OpMine, A: 4}, true},
		{"mine with a K", api.Op{Kind: api.OpMine, A: 1, K: 1}, false},
		{"bit", api.Op{Kind: api.OpBit, A: 2, K: 63, Party: 1}, true},
		{"bit 64", api.Op{Kind: api.OpBit, A: 2, K: 64, Party: 1}, false},
		{"bit -1", api.Op{Kind: api.OpBit, A: 2, K: -1}, false},
		{"bit of an arithmetic", api.Op{Kind: api.OpBit, A: 0}, false},
		{"bit of party -1", api.Op{Kind: api.OpBit, A: 2, Party: -1}, false},
		{"bit of a const", api.Op{Kind: api.OpBit, A: 4}, true},

		{"garb 0", api.Op{Kind: api.OpGarb, K: 0}, false},
		{"garb 4", api.Op{Kind: api.OpGarb, K: 4}, false},
		{"garb -1", api.Op{Kind: api.OpGarb, K: -1}, false},
		{"relu", api.Op{Kind: api.OpGarb, K: 1, A: 1}, true},
		{"relu of a boolean", api.Op{Kind: api.OpGarb, K: 1, A: 2}, false},
		{"boolean relu", api.Op{Kind: api.OpGarb, K: 1, A: 2, C: 1}, true},
		{"boolean relu of an arithmetic", api.Op{Kind: api.OpGarb, K: 1, A: 1, C: 1}, false},
		{"boolean relu of a const", api.Op{Kind: api.OpGarb, K: 1, A: 4, C: 1}, true},
		{"relu with forms of two", api.Op{Kind: api.OpGarb, K: 1, A: 1, C: 2}, false},
		{"boolean relu with forms of two", api.Op{Kind: api.OpGarb, K: 1, A: 2, C: 3}, false},
		{"relu with a B", api.Op{Kind: api.OpGarb, K: 1, A: 1, B: 1}, false},
		{"relu with a party", api.Op{Kind: api.OpGarb, K: 1, A: 1, Party: 1}, false},
		{"less, both arithmetic", api.Op{Kind: api.OpGarb, K: 2, A: 0, B: 1, C: 0}, true},
		{"less, a boolean A", api.Op{Kind: api.OpGarb, K: 2, A: 2, B: 1, C: 1}, true},
		{"less, a boolean B", api.Op{Kind: api.OpGarb, K: 2, A: 0, B: 3, C: 2}, true},
		{"less, both boolean", api.Op{Kind: api.OpGarb, K: 2, A: 2, B: 3, C: 3}, true},
		{"less, of forms the other way", api.Op{Kind: api.OpGarb, K: 2, A: 2, B: 1, C: 2}, false},
		{"less, of forms that lack", api.Op{Kind: api.OpGarb, K: 2, A: 2, B: 3, C: 1}, false},
		{"less, of too great forms", api.Op{Kind: api.OpGarb, K: 2, A: 0, B: 1, C: 4}, false},
		{"less, of forms with a high bit", api.Op{Kind: api.OpGarb, K: 2, A: 0, B: 1, C: 1 << 63}, false},
		{"less with a party", api.Op{Kind: api.OpGarb, K: 2, A: 0, B: 1, Party: 1}, false},
		{"max of consts", api.Op{Kind: api.OpGarb, K: 3, A: 4, B: 4, C: 2}, true},
		{"max of an out", api.Op{Kind: api.OpGarb, K: 3, A: 0, B: 5}, false},
		{"max of a boolean out", api.Op{Kind: api.OpGarb, K: 3, A: 6, B: 2, C: 3}, false},
		{"max of itself", api.Op{Kind: api.OpGarb, K: 3, A: 0, B: 7}, false},

		{"out", api.Op{Kind: api.OpOut, A: 1, K: 2}, true},
		{"out of a const", api.Op{Kind: api.OpOut, A: 4, K: 2}, true},
		{"out of a boolean", api.Op{Kind: api.OpOut, A: 2, K: 2}, false},
		{"out of an out", api.Op{Kind: api.OpOut, A: 5, K: 2}, false},
		{"out with a number that is taken", api.Op{Kind: api.OpOut, A: 1, K: 1}, false},
		{"out with a number too great", api.Op{Kind: api.OpOut, A: 1, K: 3}, false},
		{"out with a number below 0", api.Op{Kind: api.OpOut, A: 1, K: -1}, false},
		{"out with a B", api.Op{Kind: api.OpOut, A: 1, B: 1, K: 2}, false},
		{"out with a C", api.Op{Kind: api.OpOut, A: 1, C: 1, K: 2}, false},
		{"out with a party", api.Op{Kind: api.OpOut, A: 1, Party: 1, K: 2}, false},
		{"outb", api.Op{Kind: api.OpOutB, A: 2, K: 2}, true},
		{"outb of a const", api.Op{Kind: api.OpOutB, A: 4, K: 2}, true},
		{"outb of an arithmetic", api.Op{Kind: api.OpOutB, A: 1, K: 2}, false},
		{"outb with a number that is taken", api.Op{Kind: api.OpOutB, A: 2, K: 0}, false},
	} {
		ops, elems := append(sources(), x.op), [2]int{5, 2}
		if got := micro.Check(ops, elems) == nil; got != x.wanted || isProgram(ops, elems) != x.wanted {
			t.Errorf("%s: %v is a program: %v, want %v", x.name, x.op, got, x.wanted)
			continue
		}
		checkEither(t, ops, elems)
	}
}

// All ways to set one operation's fields to some words, behind words of each form.
func TestOneOperation(t *testing.T) {
	elems := [2]int{3, 64}
	places := []int{math.MinInt, -1, 0, 1, 2, 4, 5, 6, 7, 8, math.MaxInt}
	ks := []int{math.MinInt, -1, 0, 1, 2, 3, 4, 63, 64, mostElems, math.MaxInt}
	cs := []uint64{0, 1, 2, 3, 4, 1 << 63}
	for kind := api.OpKind(-1); kind <= 20; kind++ {
		for _, a := range places {
			for _, b := range places {
				for _, k := range ks {
					for _, c := range cs {
						for party := -1; party <= 2; party++ {
							ops := append(sources(), api.Op{Kind: kind, A: a, B: b, K: k, C: c, Party: party})
							if got, want := micro.Check(ops, elems), isProgram(ops, elems); (got == nil) != want || !want && fault.Code(got) != api.ErrMicro {
								t.Fatalf("Check of %v: %v, want a program: %v", ops[len(ops)-1], got, want)
							}
						}
					}
				}
			}
		}
	}
}

func TestNumbersOfElements(t *testing.T) {
	numbers := []int{math.MinInt, -mostElems, -2, -1, 0, 1, 2, mostElems - 1, mostElems, mostElems + 1, 1 << 32, math.MaxInt}
	for _, n := range numbers {
		for _, m := range numbers {
			elems := [2]int{n, m}
			good := n >= 0 && n <= mostElems && m >= 0 && m <= mostElems
			for _, ops := range [][]api.Op{nil, {}, {{Kind: api.OpConst}}} {
				if err := micro.Check(ops, elems); (err == nil) != good {
					t.Errorf("Check(%v, %v): %v", ops, elems, err)
				}
				checkEither(t, ops, elems)
			}
			for party := range 2 {
				for _, k := range append(numbers, n-1, m-1) {
					ops := []api.Op{{Kind: api.OpIn, Party: party, K: k}}
					if err := micro.Check(ops, elems); (err == nil) != (good && k >= 0 && k < elems[party]) {
						t.Errorf("Check(%v, %v): %v", ops, elems, err)
					}
				}
			}
		}
	}
}

// Rounds, Need and Outs take programs for whatever numbers of elements there may be.
func TestElementsDoNotMatter(t *testing.T) {
	for party := range 2 {
		for _, k := range []int{0, 1, 63, 64, 1000, mostElems - 1} {
			ops := []api.Op{{Kind: api.OpIn, Party: party, K: k}, {Kind: api.OpOut}}
			want := api.Need{Rounds: 2, Words: [2]int{1, 1}}
			want.Tape[party]++
			want.Words[party]++
			if r, n, o := micro.Rounds(ops), micro.Need(ops), micro.Outs(ops, []uint64{5, 6}); !slices.Equal(r, []int{1, 2}) || n != want || !slices.Equal(o, []uint64{6}) {
				t.Errorf("%v: %v, %v, %v", ops, r, n, o)
			}
		}
		checkNone(t, []api.Op{{Kind: api.OpIn, Party: party, K: -1}})
	}
}

// None, few, as many as may be, and one more.
func TestNumberOfOperations(t *testing.T) {
	checkProgram(t, nil, [2]int{})
	checkProgram(t, []api.Op{}, [2]int{mostElems, mostElems})
	for _, n := range []int{1, 2, most - 1, most, most + 1, most + 2, 2 * most} {
		consts := make([]api.Op, n)
		for i := range consts {
			consts[i] = api.Op{Kind: api.OpConst, C: uint64(i)}
		}
		// The out K, which stands K places ahead of the last one, is of the place K, whose word is K.
		outs, numbers := slices.Clone(consts), n/2
		for k := range numbers {
			outs[n-1-k] = api.Op{Kind: api.OpOut + api.OpKind(k%2), A: k, K: k}
		}
		for _, ops := range [][]api.Op{consts, outs} {
			if n > most {
				checkRefused(t, ops, [2]int{})
				checkNone(t, ops)
				continue
			}
			if err := micro.Check(ops, [2]int{}); err != nil {
				t.Errorf("Check of %d operations: %v", n, err)
			}
			if r := micro.Rounds(ops); len(r) != n {
				t.Errorf("Rounds of %d operations: %d", n, len(r))
			}
		}
		if n == 1 || n > most {
			continue
		}
		if need := micro.Need(outs); need != (api.Need{Rounds: 1, Words: [2]int{numbers, numbers}}) {
			t.Errorf("Need of %d operations: %v", n, need)
		}
		none := [2]*corr.Stock{corr.Load(nil, nil, nil), corr.Load(nil, nil, nil)}
		w, err := micro.Sim(outs, [2]int{}, [2][]uint64{}, [2]*tape.Tape{tape.Load(nil), tape.Load(nil)}, none)
		if err != nil || len(w[0]) != n || len(w[1]) != n {
			t.Fatalf("Sim of %d operations: %v", n, err)
		}
		told := micro.Outs(outs, w[1])
		if len(told) != numbers {
			t.Fatalf("Outs of %d operations: %d", n, len(told))
		}
		for k, x := range told {
			if x != uint64(k) {
				t.Fatalf("Outs of %d operations: %d at %d", n, x, k)
			}
		}
	}
}

// A long chain of rounds: each operation wants the one ahead of it.
func TestLongChain(t *testing.T) {
	ops := []api.Op{{Kind: api.OpIn}}
	for i := 1; i < most; i++ {
		ops = append(ops, api.Op{Kind: api.OpMul, A: i - 1, B: i - 1})
	}
	if err := micro.Check(ops, [2]int{1, 0}); err != nil {
		t.Fatal(err)
	}
	for i, r := range micro.Rounds(ops) {
		if r != i+1 {
			t.Fatalf("the round of %d: %d", i, r)
		}
	}
	if n := micro.Need(ops); n != (api.Need{Triples: most - 1, Tape: [2]int{1, 0}, Rounds: most, Words: [2]int{2*most - 1, 2*most - 2}}) {
		t.Errorf("Need: %v", n)
	}
	triples := make([]api.Triple, most-1)
	w, err := micro.Sim(ops, [2]int{1, 0}, [2][]uint64{{1}, nil}, [2]*tape.Tape{tape.Load([]uint64{5}), tape.Load(nil)}, [2]*corr.Stock{corr.Load(triples, nil, nil), corr.Load(triples, nil, nil)})
	if err != nil || w[0][most-1]+w[1][most-1] != 1 {
		t.Errorf("Sim: %v", err)
	}
}

// All numbers of up to four outs, each from -1 to one beyond the last: just those that come once each, from 0 on.
func TestNumbersOfOuts(t *testing.T) {
	for n := range 5 {
		all := 1
		for range n {
			all *= n + 3
		}
		for x := range all {
			ops := []api.Op{{Kind: api.OpConst, C: 7}, {Kind: api.OpIn}}
			var numbers []int
			for range n {
				k := x%(n+3) - 1
				x /= n + 3
				numbers = append(numbers, k)
				ops = append(ops, api.Op{Kind: api.OpOut + api.OpKind(len(numbers)%2), K: k})
			}
			sorted := slices.Clone(numbers)
			slices.Sort(sorted)
			good := true
			for i, k := range sorted {
				good = good && i == k
			}
			if err := micro.Check(ops, [2]int{1, 0}); (err == nil) != good {
				t.Fatalf("Check with outs %v: %v", numbers, err)
			}
			checkEither(t, ops, [2]int{1, 0})
		}
	}
	for _, k := range []int{math.MinInt, math.MinInt + 1, -most, most, 1 << 32, math.MaxInt} {
		ops := []api.Op{{Kind: api.OpConst}, {Kind: api.OpOut, K: k}}
		checkRefused(t, ops, [2]int{})
		checkNone(t, ops)
	}
}

// Programs, and the same with one field of one operation set to something else.
func TestRandomPrograms(t *testing.T) {
	s := noise(1)
	for range 3000 {
		elems := [2]int{s.below(4), s.below(4)}
		ops := s.program(s.below(40), elems, rows())
		if !isProgram(ops, elems) {
			t.Fatalf("the reader refuses %v", ops)
		}
		checkProgram(t, ops, elems)
		if len(ops) == 0 {
			continue
		}
		op := &ops[s.below(len(ops))]
		n := pick(&s, []int{-1, 0, 1, 2, 3, 4, 63, 64, len(ops) - 1, len(ops), s.below(len(ops))})
		switch s.below(6) {
		case 0:
			op.Kind = api.OpKind(n)
		case 1:
			op.A = n
		case 2:
			op.B = n
		case 3:
			op.K = n
		case 4:
			op.C = uint64(n)
		case 5:
			op.Party = n
		}
		checkEither(t, ops, elems)
	}
}

// What each kind adds to the round of what it wants; of words that it doesn't want nothing is added, though the place 0 has a round.
func TestRoundsByHand(t *testing.T) {
	ops := []api.Op{
		{Kind: api.OpIn},                            // 1
		{Kind: api.OpConst, C: 3},                   // 0
		{Kind: api.OpMulC, A: 1},                    // 0
		{Kind: api.OpMine, A: 1},                    // 0
		{Kind: api.OpXorC, A: 3},                    // 0
		{Kind: api.OpAndC, A: 1},                    // 0
		{Kind: api.OpShl, A: 1},                     // 0
		{Kind: api.OpShr, A: 3},                     // 0
		{Kind: api.OpSar, A: 3},                     // 0
		{Kind: api.OpSpread, A: 3},                  // 0
		{Kind: api.OpBit, A: 3},                     // 0
		{Kind: api.OpGarb, K: 1, A: 1},              // 2
		{Kind: api.OpOut, A: 1},                     // 1
		{Kind: api.OpOutB, A: 1, K: 1},              // 1
		{Kind: api.OpMul, A: 1, B: 1},               // 1
		{Kind: api.OpAnd, A: 1, B: 1},               // 1
		{Kind: api.OpAdd, A: 1, B: 1},               // 0
		{Kind: api.OpAdd, A: 1, B: 0},               // 1
		{Kind: api.OpSub, A: 0, B: 1},               // 1
		{Kind: api.OpMul, A: 17, B: 0},              // 2
		{Kind: api.OpMul, A: 19, B: 1},              // 3
		{Kind: api.OpMul, A: 1, B: 20},              // 4
		{Kind: api.OpMine, A: 21},                   // 4
		{Kind: api.OpXor, A: 1, B: 22},              // 4
		{Kind: api.OpXor, A: 22, B: 1},              // 4
		{Kind: api.OpAnd, A: 24, B: 11},             // 5
		{Kind: api.OpShl, A: 25},                    // 5
		{Kind: api.OpBit, A: 26},                    // 5
		{Kind: api.OpMulC, A: 27},                   // 5
		{Kind: api.OpGarb, K: 2, B: 28},             // 7
		{Kind: api.OpGarb, K: 3, C: 2, B: 29, A: 0}, // 9
		{Kind: api.OpIn, Party: 1},                  // 1
		{Kind: api.OpOutB, A: 30, K: 2},             // 10
	}
	want := []int{1, 0, 0, 0, 0, 0, 0, 0, 0, 0, 0, 2, 1, 1, 1, 1, 0, 1, 1, 2, 3, 4, 4, 4, 4, 5, 5, 5, 5, 7, 9, 1, 10}
	if got := micro.Rounds(ops); !slices.Equal(got, want) {
		t.Errorf("Rounds: %v, want %v", got, want)
	}
	if n := micro.Need(ops); n.Rounds != 10 {
		t.Errorf("Need: %v", n)
	}
}

// What one operation needs beyond what stands ahead of it.
func TestNeedOfOne(t *testing.T) {
	ahead := []api.Op{{Kind: api.OpConst}}
	if n := micro.Need(ahead); n != (api.Need{}) {
		t.Fatalf("Need of an OpConst: %v", n)
	}
	garb := func(operands, ands int) api.Need {
		return api.Need{OTs: 64 * operands, Tape: [2]int{2 + 256*operands, 0}, Rounds: 2, Words: [2]int{384*operands + 4*ands, operands}}
	}
	for _, x := range []struct {
		op   api.Op
		want api.Need
	}{
		{api.Op{Kind: api.OpIn}, api.Need{Tape: [2]int{1, 0}, Rounds: 1, Words: [2]int{1, 0}}},
		{api.Op{Kind: api.OpIn, Party: 1}, api.Need{Tape: [2]int{0, 1}, Rounds: 1, Words: [2]int{0, 1}}},
		{api.Op{Kind: api.OpConst}, api.Need{}},
		{api.Op{Kind: api.OpAdd}, api.Need{}},
		{api.Op{Kind: api.OpSub}, api.Need{}},
		{api.Op{Kind: api.OpMulC}, api.Need{}},
		{api.Op{Kind: api.OpMul}, api.Need{Triples: 1, Rounds: 1, Words: [2]int{2, 2}}},
		{api.Op{Kind: api.OpXor}, api.Need{}},
		{api.Op{Kind: api.OpXorC}, api.Need{}},
		{api.Op{Kind: api.OpAndC}, api.Need{}},
		{api.Op{Kind: api.OpAnd}, api.Need{Bits: 1, Rounds: 1, Words: [2]int{2, 2}}},
		{api.Op{Kind: api.OpShl}, api.Need{}},
		{api.Op{Kind: api.OpShr}, api.Need{}},
		{api.Op{Kind: api.OpSar}, api.Need{}},
		{api.Op{Kind: api.OpSpread}, api.Need{}},
		{api.Op{Kind: api.OpMine}, api.Need{}},
		{api.Op{Kind: api.OpBit}, api.Need{}},
		{api.Op{Kind: api.OpOut}, api.Need{Rounds: 1, Words: [2]int{1, 1}}},
		{api.Op{Kind: api.OpOutB}, api.Need{Rounds: 1, Words: [2]int{1, 1}}},
		{api.Op{Kind: api.OpGarb, K: 1, C: 0}, garb(1, 126)},
		{api.Op{Kind: api.OpGarb, K: 1, C: 1}, garb(1, 63)},
		{api.Op{Kind: api.OpGarb, K: 2, C: 0}, garb(2, 190)},
		{api.Op{Kind: api.OpGarb, K: 2, C: 1}, garb(2, 127)},
		{api.Op{Kind: api.OpGarb, K: 2, C: 2}, garb(2, 127)},
		{api.Op{Kind: api.OpGarb, K: 2, C: 3}, garb(2, 64)},
		{api.Op{Kind: api.OpGarb, K: 3, C: 0}, garb(2, 254)},
		{api.Op{Kind: api.OpGarb, K: 3, C: 1}, garb(2, 191)},
		{api.Op{Kind: api.OpGarb, K: 3, C: 2}, garb(2, 191)},
		{api.Op{Kind: api.OpGarb, K: 3, C: 3}, garb(2, 128)},
	} {
		if got := micro.Need(append(slices.Clone(ahead), x.op)); got != x.want {
			t.Errorf("Need of %v: %v, want %v", x.op, got, x.want)
		}
		// Of two alike all is twice as much, but the rounds and delta.
		want := x.want
		want.Triples, want.Bits, want.OTs = 2*want.Triples, 2*want.Bits, 2*want.OTs
		for party := range 2 {
			want.Tape[party], want.Words[party] = 2*want.Tape[party], 2*want.Words[party]
		}
		if x.op.Kind == api.OpGarb {
			want.Tape[0] -= 2
		}
		other := x.op
		if other.Kind == api.OpOut || other.Kind == api.OpOutB {
			other.K = 1
		}
		if got := micro.Need(append(slices.Clone(ahead), x.op, other)); got != want {
			t.Errorf("Need of two of %v: %v, want %v", x.op, got, want)
		}
	}
	for _, r := range garbRows() {
		c, err := circ.Make(r.circuit, r.forms)
		if err != nil || circ.Ands(c) != r.ands() {
			t.Errorf("the reader has %d And gates, the circuit %d, %v", r.ands(), circ.Ands(c), err)
		}
	}
}

// As many OpGarb as may be: each circuit's gates are counted, none is gone through more often than need be.
func TestNeedOfManyGarbs(t *testing.T) {
	ops := []api.Op{{Kind: api.OpConst}}
	ands := 0
	for i := 1; i < most; i++ {
		r := garbRows()[i%10]
		ops = append(ops, api.Op{Kind: api.OpGarb, K: r.circuit, C: r.forms})
		ands += r.ands()
	}
	operands := (most-1)/10*18 + 1 + 2 + 2
	want := api.Need{OTs: 64 * operands, Tape: [2]int{2 + 256*operands, 0}, Rounds: 2, Words: [2]int{384*operands + 4*ands, operands}}
	if got := micro.Need(ops); got != want {
		t.Errorf("Need: %v, want %v", got, want)
	}
}

func TestOuts(t *testing.T) {
	ops := []api.Op{
		{Kind: api.OpIn}, {Kind: api.OpOut, K: 2}, {Kind: api.OpMine}, {Kind: api.OpOutB, A: 2, K: 0}, {Kind: api.OpOut, K: 3}, {Kind: api.OpOutB, A: 2, K: 1}, {Kind: api.OpConst},
	}
	shares := []uint64{10, 11, 12, 13, 14, 15, 16}
	if got := micro.Outs(ops, shares); !slices.Equal(got, []uint64{13, 15, 11, 14}) {
		t.Errorf("Outs: %v", got)
	}
	for _, n := range []int{0, 1, 4, 6, 8, 14} {
		l := append(slices.Clone(shares), shares...)[:n]
		if got := micro.Outs(ops, l); len(got) != 0 {
			t.Errorf("Outs with %s shares: %v", strconv.Itoa(n), got)
		}
	}
	for _, op := range []api.Op{{Kind: api.OpOut, K: 4, A: 2}, {Kind: api.OpOut, K: 3}, {Kind: api.OpOut, K: 5}, {}} {
		if got := micro.Outs(append(slices.Clone(ops[:6]), op), shares); len(got) != 0 {
			t.Errorf("Outs with %v: %v", op, got)
		}
	}
	for _, ops := range [][]api.Op{nil, {}} {
		for _, shares := range [][]uint64{nil, {}, {1}} {
			if got := micro.Outs(ops, shares); len(got) != 0 {
				t.Errorf("Outs of no operations: %v", got)
			}
		}
	}
	if got := micro.Outs([]api.Op{{Kind: api.OpConst}}, []uint64{5}); len(got) != 0 {
		t.Errorf("Outs of no outs: %v", got)
	}
}
