package corr_test

import (
	"encoding/binary"
	"errors"
	"math"
	"math/big"
	"runtime"
	"slices"
	"testing"
	"weak"

	"twain/api"
	"twain/corr"
	"twain/fault"
	"twain/tape"
)

// most is the greatest number of a kind that may be dealt.
const most = 1 << 16

// noise tells the same words in each run.
type noise uint64

func (s *noise) word() uint64 {
	*s += 0x9e3779b97f4a7c15
	x := uint64(*s)
	x = (x ^ x>>30) * 0xbf58476d1ce4e5b9
	x = (x ^ x>>27) * 0x94d049bb133111eb
	return x ^ x>>31
}

// below: a number from 0 to n - 1.
func (s *noise) below(n int) int { return int(s.word() % uint64(n)) }

func (s *noise) words(n int) []uint64 {
	l := make([]uint64, n)
	for i := range l {
		l[i] = s.word()
	}
	return l
}

func (s *noise) triples(n int) []api.Triple {
	l := make([]api.Triple, n)
	for i := range l {
		l[i] = api.Triple{A: s.word(), B: s.word(), C: s.word()}
	}
	return l
}

func (s *noise) ots(n int) []api.OT {
	l := make([]api.OT, n)
	for i := range l {
		l[i] = api.OT{R: [2]api.Label{{s.word(), s.word()}, {s.word(), s.word()}}, Choice: s.below(2) == 1}
	}
	return l
}

// outside: numbers that can't be dealt: just outside, far outside, and those that cut to fewer bits, or times five, would do.
func outside() []int {
	return []int{
		-1, -2, -5, -most, -most - 1, most + 1, most + 2, 2 * most, 1 << 20, 1 << 32, 1<<32 + 1,
		math.MaxInt / 5, math.MaxInt/5 + 1, 1 << 62, math.MaxInt, math.MinInt, math.MinInt + 1, math.MinInt / 5,
	}
}

// edges: words with the lowest, the highest, all or no bits.
func edges() []uint64 {
	return []uint64{0, 1, 2, 1 << 63, 1<<63 - 1, 1<<32 + 1, math.MaxUint64, math.MaxUint64 - 1}
}

// pick tells which method a call is of.
type pick int

const (
	triple pick = iota
	bits
	ot
	picks
)

// model is a stock: what is left of each kind, the next one first.
type model struct {
	triples, bits []api.Triple
	ots           []api.OT
}

// told is all that a call answers; what its method doesn't tell is zero.
type told struct {
	triple api.Triple
	ot     api.OT
	code   api.Errno
}

// answer: what the call must answer; the model is then as the stock must be.
func (m *model) answer(p pick) told {
	switch {
	case p == triple && len(m.triples) > 0:
		next := m.triples[0]
		m.triples = m.triples[1:]
		return told{triple: next}
	case p == bits && len(m.bits) > 0:
		next := m.bits[0]
		m.bits = m.bits[1:]
		return told{triple: next}
	case p == ot && len(m.ots) > 0:
		next := m.ots[0]
		m.ots = m.ots[1:]
		return told{ot: next}
	}
	return told{code: api.ErrStock}
}

// lacking: what of a product, modulo 2^64, the first share lacks, by numbers without an end.
func lacking(a0, a1, b0, b1, c uint64) uint64 {
	number := func(x uint64) *big.Int { return new(big.Int).SetUint64(x) }
	a, b := number(a0), number(b0)
	a.Add(a, number(a1))
	b.Add(b, number(b1))
	a.Mul(a, b).Sub(a, number(c))
	return a.Mod(a, new(big.Int).Lsh(big.NewInt(1), 64)).Uint64()
}

// lackingBits: what of the bits that both have the first share lacks, bit by bit.
func lackingBits(a0, a1, b0, b1, c uint64) uint64 {
	var x uint64
	for i := range 64 {
		bit := func(w uint64) bool { return w>>i&1 == 1 }
		both := bit(a0) != bit(a1) && bit(b0) != bit(b1)
		if both != bit(c) {
			x += 1 << i
		}
	}
	return x
}

// dealt: the models of both parties' stocks, out of these words.
func dealt(words []uint64, triples, bitTriples, ots int) [2]model {
	var m [2]model
	next := func() uint64 {
		x := words[0]
		words = words[1:]
		return x
	}
	shares := func(lacks func(a0, a1, b0, b1, c uint64) uint64) (api.Triple, api.Triple) {
		var x, y api.Triple
		x.A, y.A = next(), next()
		x.B, y.B = next(), next()
		x.C = next()
		y.C = lacks(x.A, y.A, x.B, y.B, x.C)
		return x, y
	}
	for range triples {
		x, y := shares(lacking)
		m[0].triples, m[1].triples = append(m[0].triples, x), append(m[1].triples, y)
	}
	for range bitTriples {
		x, y := shares(lackingBits)
		m[0].bits, m[1].bits = append(m[0].bits, x), append(m[1].bits, y)
	}
	for range ots {
		var x, y api.OT
		x.R[0][0], x.R[0][1] = next(), next()
		x.R[1][0], x.R[1][1] = next(), next()
		y.R[0] = x.R[0]
		if next()%2 == 1 {
			y.R[0], y.Choice = x.R[1], true
		}
		m[0].ots, m[1].ots = append(m[0].ots, x), append(m[1].ots, y)
	}
	return m
}

// checkCode: is err of this number, for each way to ask?
func checkCode(t *testing.T, what any, err error, want api.Errno) {
	t.Helper()
	if want == api.OK {
		if err != nil {
			t.Errorf("%v: error %v, want none", what, err)
		}
		return
	}
	var code api.Errno
	if fault.Code(err) != want || !fault.Is(err, want) || !errors.Is(err, want) || !errors.As(err, &code) || code != want {
		t.Errorf("%v: error %v, want %v", what, err, want)
	}
}

// made makes the call.
func made(s *corr.Stock, p pick) (told, error) {
	var x told
	var err error
	switch p {
	case triple:
		x.triple, err = s.Triple()
	case bits:
		x.triple, err = s.Bits()
	default:
		x.ot, err = s.OT()
	}
	x.code = fault.Code(err)
	return x, err
}

// checkCall makes the call of both, and holds the answers against each other.
func checkCall(t *testing.T, s *corr.Stock, m *model, p pick) {
	t.Helper()
	want := m.answer(p)
	got, err := made(s, p)
	if got != want {
		t.Fatalf("call %d: %v, want %v", p, got, want)
	}
	checkCode(t, p, err, want.code)
	checkLeft(t, s, m)
}

func checkLeft(t *testing.T, s *corr.Stock, m *model) {
	t.Helper()
	if x, y, z := s.Left(); x != len(m.triples) || y != len(m.bits) || z != len(m.ots) {
		t.Fatalf("Left: %d, %d, %d, want %d, %d, %d", x, y, z, len(m.triples), len(m.bits), len(m.ots))
	}
}

// checkAll takes everything, and looks at the ends.
func checkAll(t *testing.T, s *corr.Stock, m model) {
	t.Helper()
	checkLeft(t, s, &m)
	for _, p := range []pick{ot, triple, bits} {
		for range max(len(m.triples), len(m.bits), len(m.ots)) + 2 {
			checkCall(t, s, &m, p)
		}
	}
}

// checkRest: does the tape go on with just these words?
func checkRest(t *testing.T, x *tape.Tape, used int, rest []uint64) {
	t.Helper()
	if x.Used() != used || x.Left() != len(rest) {
		t.Errorf("the tape has %d words used up and %d left, want %d and %d", x.Used(), x.Left(), used, len(rest))
	}
	for i, want := range rest {
		if w, err := x.Next(); w != want || err != nil {
			t.Fatalf("the tape's word %d: %d, %v, want %d", used+i, w, err, want)
		}
	}
}

// deal deals what must be dealt.
func deal(t *testing.T, x *tape.Tape, triples, bitTriples, ots int) [2]*corr.Stock {
	t.Helper()
	s, err := corr.Deal(x, triples, bitTriples, ots)
	checkCode(t, "Deal", err, api.OK)
	if s[0] == nil || s[1] == nil || s[0] == s[1] {
		t.Fatalf("Deal of %d, %d, %d: %p, %p, want two stocks", triples, bitTriples, ots, s[0], s[1])
	}
	return s
}

// checkRefused: is the deal refused, with no stock, and with the tape as it was?
func checkRefused(t *testing.T, x *tape.Tape, numbers [3]int, want api.Errno) {
	t.Helper()
	used, left := x.Used(), x.Left()
	s, err := corr.Deal(x, numbers[0], numbers[1], numbers[2])
	checkCode(t, numbers, err, want)
	if s != [2]*corr.Stock{} {
		t.Errorf("Deal of %v: stocks beside an error", numbers)
	}
	if x.Used() != used || x.Left() != left {
		t.Errorf("Deal of %v: %d words used up, %d left, want %d and %d", numbers, x.Used(), x.Left(), used, left)
	}
}

// small: all deals of at most n of each kind.
func small(n int) [][3]int {
	var l [][3]int
	for number := range (n + 1) * (n + 1) * (n + 1) {
		l = append(l, [3]int{number % (n + 1), number / (n + 1) % (n + 1), number / (n + 1) / (n + 1)})
	}
	return l
}

func wordsOf(numbers [3]int) int { return 5 * (numbers[0] + numbers[1] + numbers[2]) }

func TestExamples(t *testing.T) {
	s := deal(t, tape.Load([]uint64{1, 2, 3, 4, 5}), 1, 0, 0)
	checkAll(t, s[0], model{triples: []api.Triple{{A: 1, B: 3, C: 5}}})
	checkAll(t, s[1], model{triples: []api.Triple{{A: 2, B: 4, C: 16}}})
	checkRefused(t, tape.Load([]uint64{1, 2, 3, 4}), [3]int{1, 0, 0}, api.ErrTape)
	s = deal(t, tape.Load([]uint64{1, 2, 3, 4, 5}), 0, 1, 0)
	checkAll(t, s[0], model{bits: []api.Triple{{A: 1, B: 3, C: 5}}})
	checkAll(t, s[1], model{bits: []api.Triple{{A: 2, B: 4, C: 6}}})
}

// The words are written out, two of each kind: each word of the tape is another.
func TestOrderOfWords(t *testing.T) {
	var words []uint64
	for i := range 31 {
		words = append(words, uint64(100+i))
	}
	x := tape.Load(words)
	s := deal(t, x, 2, 2, 2)
	checkAll(t, s[0], model{
		triples: []api.Triple{{A: 100, B: 102, C: 104}, {A: 105, B: 107, C: 109}},
		bits:    []api.Triple{{A: 110, B: 112, C: 114}, {A: 115, B: 117, C: 119}},
		ots:     []api.OT{{R: [2]api.Label{{120, 121}, {122, 123}}}, {R: [2]api.Label{{125, 126}, {127, 128}}}},
	})
	checkAll(t, s[1], model{
		triples: []api.Triple{{A: 101, B: 103, C: 201*205 - 104}, {A: 106, B: 108, C: 211*215 - 109}},
		bits:    []api.Triple{{A: 111, B: 113, C: (110^111)&(112^113) ^ 114}, {A: 116, B: 118, C: (115^116)&(117^118) ^ 119}},
		ots:     []api.OT{{R: [2]api.Label{{120, 121}}}, {R: [2]api.Label{{127, 128}}, Choice: true}},
	})
	checkRest(t, x, 30, []uint64{130})
}

func TestEverySmallDeal(t *testing.T) {
	s := noise(1)
	for _, n := range small(4) {
		// Just enough words, and some more.
		for _, more := range []int{0, 1, 4, 5, 6} {
			words := s.words(wordsOf(n) + more)
			x := tape.Load(words)
			stocks, want := deal(t, x, n[0], n[1], n[2]), dealt(words, n[0], n[1], n[2])
			checkRest(t, x, wordsOf(n), words[wordsOf(n):])
			checkAll(t, stocks[0], want[0])
			checkAll(t, stocks[1], want[1])
		}
	}
}

func TestTapeIsTooShort(t *testing.T) {
	s := noise(2)
	for _, n := range small(3) {
		for _, few := range []int{1, 2, 4, 5, 6, wordsOf(n)} {
			if few > wordsOf(n) || few == 0 {
				continue
			}
			words := s.words(wordsOf(n) - few)
			x := tape.Load(words)
			for range 3 {
				checkRefused(t, x, n, api.ErrTape)
			}
			checkRest(t, x, 0, words)
			seeded := tape.New([16]byte{1, 2}, wordsOf(n)-few)
			checkRefused(t, seeded, n, api.ErrTape)
		}
	}
}

// The words that were used up ahead of the deal don't count.
func TestTapeThatIsUsedAlready(t *testing.T) {
	s := noise(3)
	for ahead := range 7 {
		words := s.words(ahead + 14)
		x := tape.Load(words)
		for range ahead {
			x.Next()
		}
		for _, n := range [][3]int{{3, 0, 0}, {0, 3, 0}, {0, 0, 3}, {1, 1, 1}, {most, most, most}} {
			checkRefused(t, x, n, api.ErrTape)
		}
		stocks, want := deal(t, x, 1, 0, 1), dealt(words[ahead:], 1, 0, 1)
		checkRest(t, x, ahead+10, words[ahead+10:])
		checkAll(t, stocks[0], want[0])
		checkAll(t, stocks[1], want[1])
	}
}

// A deal goes on where the last one ended; one that is refused between them leaves no trace.
func TestDealsOfOneTape(t *testing.T) {
	s := noise(4)
	for range 50 {
		words := s.words(60)
		x, used := tape.Load(words), 0
		for range 12 {
			n := [3]int{s.below(3), s.below(3), s.below(3)}
			if wordsOf(n) > len(words)-used {
				checkRefused(t, x, n, api.ErrTape)
				continue
			}
			stocks, want := deal(t, x, n[0], n[1], n[2]), dealt(words[used:], n[0], n[1], n[2])
			used += wordsOf(n)
			checkAll(t, stocks[0], want[0])
			checkAll(t, stocks[1], want[1])
			checkRefused(t, x, [3]int{n[0], -1, 0}, api.ErrRange)
		}
		checkRest(t, x, used, words[used:])
	}
}

func TestNumbersOutOfRange(t *testing.T) {
	s := noise(5)
	words := s.words(40)
	tapes := []*tape.Tape{tape.Load(nil), tape.Load(words), tape.New([16]byte{7}, math.MaxInt)}
	for _, x := range tapes {
		for _, wrong := range outside() {
			for place := range 3 {
				// What the other numbers are, and whether the tape would do, is nothing to it.
				for _, other := range []int{0, 1, most, -1, most + 1, math.MaxInt, -wrong} {
					n := [3]int{other, other, other}
					n[place] = wrong
					checkRefused(t, x, n, api.ErrRange)
				}
			}
			checkRefused(t, x, [3]int{wrong, -wrong, 0}, api.ErrRange)
			checkRefused(t, x, [3]int{0, wrong, -wrong}, api.ErrRange)
		}
	}
	checkRest(t, tapes[1], 0, words)
}

func TestNoneOfAKind(t *testing.T) {
	for _, x := range []*tape.Tape{tape.Load(nil), tape.Load([]uint64{9}), tape.New([16]byte{}, 0), tape.New([16]byte{}, -1)} {
		used, left := x.Used(), x.Left()
		for range 3 {
			stocks := deal(t, x, 0, 0, 0)
			checkAll(t, stocks[0], model{})
			checkAll(t, stocks[1], model{})
		}
		if x.Used() != used || x.Left() != left {
			t.Errorf("a deal of nothing uses up %d words", x.Used()-used)
		}
	}
}

// checkWhole walks a great stock without asking for what is left at each call.
func checkWhole(t *testing.T, s *corr.Stock, m model) {
	t.Helper()
	checkLeft(t, s, &m)
	for i, want := range m.triples {
		if x, err := s.Triple(); x != want || err != nil {
			t.Fatalf("triple %d: %v, %v, want %v", i, x, err, want)
		}
	}
	for i, want := range m.bits {
		if x, err := s.Bits(); x != want || err != nil {
			t.Fatalf("bit triple %d: %v, %v, want %v", i, x, err, want)
		}
	}
	for i, want := range m.ots {
		if x, err := s.OT(); x != want || err != nil {
			t.Fatalf("OT %d: %v, %v, want %v", i, x, err, want)
		}
	}
	checkAll(t, s, model{})
}

func TestGreatestDeals(t *testing.T) {
	s := noise(6)
	for _, n := range [][3]int{{most, 0, 0}, {0, most, 0}, {0, 0, most}, {most - 1, 1, 2}, {most, most, most}} {
		words := s.words(wordsOf(n) + 1)
		checkRefused(t, tape.Load(words[:wordsOf(n)-1]), n, api.ErrTape)
		x := tape.Load(words)
		stocks, want := deal(t, x, n[0], n[1], n[2]), dealt(words, n[0], n[1], n[2])
		checkRest(t, x, wordsOf(n), words[wordsOf(n):])
		checkWhole(t, stocks[0], want[0])
		checkWhole(t, stocks[1], want[1])
	}
}

// A tape of a seed and one that is loaded with its words are dealt alike.
func TestTapeOfASeed(t *testing.T) {
	for number := range byte(20) {
		seed := [16]byte{number, 15: number}
		source := tape.New(seed, 60)
		var words []uint64
		for source.Left() > 0 {
			w, _ := source.Next()
			words = append(words, w)
		}
		stocks, want := deal(t, tape.New(seed, 60), 5, 4, 3), dealt(words, 5, 4, 3)
		checkAll(t, stocks[0], want[0])
		checkAll(t, stocks[1], want[1])
	}
}

// fits: P8.2 by itself, whatever the order of words.
func fits(t *testing.T, words []uint64, kind pick) {
	t.Helper()
	var n [3]int
	n[kind] = 1
	s := deal(t, tape.Load(words), n[0], n[1], n[2])
	switch kind {
	case triple:
		x, _ := s[0].Triple()
		y, _ := s[1].Triple()
		if lacking(x.A, y.A, x.B, y.B, x.C) != y.C || (x.A+y.A)*(x.B+y.B) != x.C+y.C {
			t.Fatalf("the triples of %v don't fit: %v, %v", words, x, y)
		}
	case bits:
		x, _ := s[0].Bits()
		y, _ := s[1].Bits()
		if lackingBits(x.A, y.A, x.B, y.B, x.C) != y.C || (x.A^y.A)&(x.B^y.B) != x.C^y.C {
			t.Fatalf("the bit triples of %v don't fit: %v, %v", words, x, y)
		}
	case ot:
		x, _ := s[0].OT()
		y, _ := s[1].OT()
		chosen := x.R[0]
		if y.Choice {
			chosen = x.R[1]
		}
		if y.R != [2]api.Label{chosen} || x.Choice || y.Choice != (words[4]%2 == 1) {
			t.Fatalf("the OTs of %v don't fit: %v, %v", words, x, y)
		}
	}
}

func TestWhatIsDealtFits(t *testing.T) {
	e := edges()
	for number := range 1 << 15 {
		words := make([]uint64, 5)
		for i := range words {
			words[i] = e[number>>(3*i)&7]
		}
		for kind := range picks {
			fits(t, words, kind)
		}
	}
	s := noise(7)
	for range 2000 {
		for kind := range picks {
			fits(t, s.words(5), kind)
		}
	}
}

// Each bit of the last word but the lowest is nothing to the choice, and each bit of the labels comes through.
func TestChoiceIsTheLowestBit(t *testing.T) {
	labels := []uint64{1, 2, 3, 4}
	for i := range 64 {
		for _, last := range []uint64{1 << i, ^(uint64(1) << i)} {
			s := deal(t, tape.Load(append(labels[:4:4], last)), 0, 0, 1)
			checkAll(t, s[0], model{ots: []api.OT{{R: [2]api.Label{{1, 2}, {3, 4}}}}})
			want := api.OT{R: [2]api.Label{{1, 2}}}
			if last&1 == 1 {
				want = api.OT{R: [2]api.Label{{3, 4}}, Choice: true}
			}
			checkAll(t, s[1], model{ots: []api.OT{want}})
		}
	}
}

// loaded: a stock and its model, with so many of each kind.
func loaded(s *noise, n [3]int) (*corr.Stock, *model) {
	m := &model{triples: s.triples(n[0]), bits: s.triples(n[1]), ots: s.ots(n[2])}
	return corr.Load(m.triples, m.bits, m.ots), m
}

func TestEveryShortList(t *testing.T) {
	s := noise(8)
	for _, n := range small(2) {
		for number := range 3 * 3 * 3 * 3 * 3 * 3 {
			stock, m := loaded(&s, n)
			checkLeft(t, stock, m)
			for range 6 {
				checkCall(t, stock, m, pick(number%3))
				number /= 3
			}
		}
	}
}

func TestLongLists(t *testing.T) {
	s, ends := noise(9), 0
	for range 60 {
		n := [3]int{s.below(100), s.below(100), s.below(100)}
		words := s.words(wordsOf(n))
		stocks, want := deal(t, tape.Load(words), n[0], n[1], n[2]), dealt(words, n[0], n[1], n[2])
		stock, m := loaded(&s, n)
		for range 300 {
			// The three stocks' calls go on by turns: none may know of another.
			checkCall(t, stocks[0], &want[0], pick(s.below(3)))
			checkCall(t, stocks[1], &want[1], pick(s.below(3)))
			checkCall(t, stock, m, pick(s.below(3)))
		}
		if len(m.triples)*len(m.bits)*len(m.ots) == 0 {
			ends++
		}
	}
	if ends == 0 {
		t.Error("no stock came to an end")
	}
}

func TestEndOfAStock(t *testing.T) {
	s := noise(10)
	for kind := range picks {
		stock, m := loaded(&s, [3]int{2, 2, 2})
		checkCall(t, stock, m, kind)
		checkCall(t, stock, m, kind)
		for range 5 {
			checkCall(t, stock, m, kind)
		}
		// One kind's end is nothing to the others.
		checkAll(t, stock, *m)
	}
}

// Zeros are things like others, and what a loaded stock's things are is nothing to it: they needn't fit.
func TestThingsThatAreZero(t *testing.T) {
	m := model{
		triples: []api.Triple{{}, {A: 1}, {}, {C: math.MaxUint64}},
		bits:    []api.Triple{{}, {}},
		ots:     []api.OT{{}, {Choice: true}, {R: [2]api.Label{{}, {0, 1}}, Choice: true}, {}},
	}
	checkAll(t, corr.Load(m.triples, m.bits, m.ots), m)
	s := deal(t, tape.Load(make([]uint64, 15)), 1, 1, 1)
	for _, stock := range s {
		checkAll(t, stock, model{triples: make([]api.Triple, 1), bits: make([]api.Triple, 1), ots: make([]api.OT, 1)})
	}
}

func TestEmptyLists(t *testing.T) {
	s := noise(11)
	room, ots := s.triples(4), s.ots(4)
	for _, stock := range []*corr.Stock{
		corr.Load(nil, nil, nil), corr.Load([]api.Triple{}, []api.Triple{}, []api.OT{}), corr.Load(room[:0], room[2:2], ots[:0]),
	} {
		checkAll(t, stock, model{})
	}
	checkAll(t, corr.Load(room[:2], nil, nil), model{triples: room[:2]})
	checkAll(t, corr.Load(nil, room[:2], nil), model{bits: room[:2]})
	checkAll(t, corr.Load(nil, nil, ots[:2]), model{ots: ots[:2]})
}

// The greatest number of a deal isn't one of a loaded stock.
func TestLoadedStockIsGreater(t *testing.T) {
	s := noise(12)
	stock, m := loaded(&s, [3]int{most + 3, most + 2, most + 1})
	checkWhole(t, stock, *m)
}

// spoil writes up to the end of the spare room.
func spoil[T any](l []T, with T) {
	for i := range l[:cap(l)] {
		l[:cap(l)][i] = with
	}
}

// What is handed to Load stays, spare room included, whatever the stock does; and the stock stays, whatever becomes of it.
func TestWhatIsLoadedStays(t *testing.T) {
	s := noise(13)
	for _, n := range small(3) {
		triples, bitTriples, ots := s.triples(n[0]+2), s.triples(n[1]+2), s.ots(n[2]+2)
		kept := model{slices.Clone(triples), slices.Clone(bitTriples), slices.Clone(ots)}
		m := model{kept.triples[:n[0]], kept.bits[:n[1]], kept.ots[:n[2]]}
		first := corr.Load(triples[:n[0]], bitTriples[:n[1]], ots[:n[2]])
		second := corr.Load(triples[:n[0]], bitTriples[:n[1]], ots[:n[2]])
		checkAll(t, first, m)
		if !slices.Equal(triples, kept.triples) || !slices.Equal(bitTriples, kept.bits) || !slices.Equal(ots, kept.ots) {
			t.Fatalf("what was handed in is changed: %v, %v, %v", triples, bitTriples, ots)
		}
		spoil(triples[:n[0]], api.Triple{A: 9})
		spoil(bitTriples[:n[1]], api.Triple{B: 9})
		spoil(ots[:n[2]], api.OT{Choice: true})
		checkAll(t, second, m)
	}
}

// One list may be handed in twice, or a piece of it: the kinds keep apart.
func TestListHandedInTwice(t *testing.T) {
	s := noise(14)
	l := s.triples(5)
	kept := slices.Clone(l)
	stock := corr.Load(l, l, nil)
	pieces := corr.Load(l[:3], l[2:], nil)
	checkAll(t, stock, model{triples: kept, bits: kept})
	checkAll(t, pieces, model{triples: kept[:3], bits: kept[2:]})
	if !slices.Equal(l, kept) {
		t.Errorf("what was handed in is changed: %v", l)
	}
}

// A deal's stocks know neither of each other nor of what becomes of the tape and its words.
func TestStocksKeepApart(t *testing.T) {
	s := noise(15)
	words := s.words(100)
	x := tape.Load(words)
	stocks, want := deal(t, x, 2, 3, 2), dealt(words, 2, 3, 2)
	later, wantLater := deal(t, x, 1, 2, 3), dealt(words[35:], 1, 2, 3)
	for x.Left() > 0 {
		x.Next()
	}
	spoil(words, 0)
	checkAll(t, stocks[0], want[0])
	checkAll(t, later[1], wantLater[1])
	checkAll(t, stocks[1], want[1])
	checkAll(t, later[0], wantLater[0])
}

// The same words are dealt alike each time, and refused alike: nothing is kept from deal to deal.
func TestDealsAreAlike(t *testing.T) {
	s := noise(16)
	words := s.words(45)
	want := dealt(words, 3, 3, 3)
	_, long := corr.Deal(tape.Load(words[:44]), 3, 3, 3)
	_, wide := corr.Deal(tape.Load(words), 3, most+1, 3)
	for range 5 {
		x := tape.Load(words)
		if _, err := corr.Deal(x, 3, most+1, 3); err == nil || wide == nil || err.Error() != wide.Error() {
			t.Errorf("Deal: %v, want %v", err, wide)
		}
		if _, err := corr.Deal(tape.Load(words[:44]), 3, 3, 3); err == nil || long == nil || err.Error() != long.Error() {
			t.Errorf("Deal: %v, want %v", err, long)
		}
		stocks := deal(t, x, 3, 3, 3)
		checkAll(t, stocks[0], want[0])
		checkAll(t, stocks[1], want[1])
	}
}

// The tape that was handed in isn't kept, nor the words in it.
func TestTapeIsLetGo(t *testing.T) {
	s := noise(17)
	words := s.words(15)
	x := tape.Load(words)
	stocks := deal(t, x, 1, 1, 1)
	gone := weak.Make(x)
	x = nil
	for range 5 {
		runtime.GC()
	}
	if gone.Value() != nil {
		t.Error("the tape is kept")
	}
	want := dealt(words, 1, 1, 1)
	checkAll(t, stocks[0], want[0])
	checkAll(t, stocks[1], want[1])
}

// FuzzDeal takes the words, the numbers and the calls out of the bytes.
func FuzzDeal(f *testing.F) {
	f.Add([]byte{1, 1, 1, 0, 1, 2, 0, 1, 2, 1, 2, 3, 4, 5, 6, 7, 8, 9}, int64(0))
	f.Add([]byte{2, 0, 3}, int64(most))
	f.Add([]byte{0, 0, 0}, int64(math.MinInt64))
	f.Fuzz(func(t *testing.T, b []byte, wrong int64) {
		if len(b) < 3 {
			return
		}
		n := [3]int{int(b[0] % 5), int(b[1] % 5), int(b[2] % 5)}
		s := noise(len(b))
		words := s.words(wordsOf(n))
		for i := range len(b) / 8 {
			words = append(words, binary.LittleEndian.Uint64(b[8*i:]))
		}
		slices.Reverse(words)
		if wrong < 0 || wrong > most {
			for place := range 3 {
				bad := n
				bad[place] = int(wrong)
				checkRefused(t, tape.Load(words), bad, api.ErrRange)
			}
		}
		if wordsOf(n) > 0 {
			checkRefused(t, tape.Load(words[:wordsOf(n)-1]), n, api.ErrTape)
		}
		x := tape.Load(words)
		stocks, want := deal(t, x, n[0], n[1], n[2]), dealt(words, n[0], n[1], n[2])
		checkRest(t, x, wordsOf(n), words[wordsOf(n):])
		for _, c := range b {
			checkCall(t, stocks[c>>7], &want[c>>7], pick(c%3))
		}
		checkAll(t, stocks[0], want[0])
		checkAll(t, stocks[1], want[1])
	})
}
