package ring_test

import (
	"math"
	"math/big"
	"slices"
	"testing"

	"twain/api"
	"twain/fault"
	"twain/ring"
)

const top = uint64(1) << 63

// noise tells the same words in each run.
type noise uint64

func (s *noise) word() uint64 {
	*s += 0x9e3779b97f4a7c15
	x := uint64(*s)
	x = (x ^ x>>30) * 0xbf58476d1ce4e5b9
	x = (x ^ x>>27) * 0x94d049bb133111eb
	return x ^ x>>31
}

func (s *noise) words(n int) []uint64 {
	l := make([]uint64, n)
	for i := range l {
		l[i] = s.word()
	}
	return l
}

func (s *noise) label() api.Label { return api.Label{s.word(), s.word()} }

// edges: the words at which signs, carries and bits change, and some between them.
func edges() []uint64 {
	l := []uint64{0, 1, 2, 3, 6, 7, top - 2, top - 1, top, top + 1, top + 2, math.MaxUint64 - 2, math.MaxUint64 - 1, math.MaxUint64}
	for i := range 64 {
		l = append(l, 1<<i, -(uint64(1) << i), 1<<i-1)
	}
	s := noise(1)
	return append(l, s.words(30)...)
}

// signed is the number that x stands for, by the chapter's words: from 2^63 on, itself less 2^64.
func signed(x uint64) *big.Int {
	n := new(big.Int).SetUint64(x)
	if x >= top {
		n.Sub(n, new(big.Int).Lsh(big.NewInt(1), 64))
	}
	return n
}

// word is the word that stands for n.
func word(n *big.Int) uint64 {
	return new(big.Int).Mod(n, new(big.Int).Lsh(big.NewInt(1), 64)).Uint64()
}

func TestExamples(t *testing.T) {
	if got := ring.Floor(1<<64-3, 1); got != 1<<64-2 {
		t.Errorf("Floor(2^64 - 3, 1): %d", got)
	}
	if got := ring.Less(1<<64-1, 0); got != 1 {
		t.Errorf("Less(2^64 - 1, 0): %d", got)
	}
	if ring.Spread(6) != 0 || ring.Spread(7) != 1<<64-1 {
		t.Errorf("Spread(6): %d, Spread(7): %d", ring.Spread(6), ring.Spread(7))
	}
	checkMat(t, []uint64{1, 2}, []uint64{3, 4}, 1, 2, 1, []uint64{11})
	checkMat(t, []uint64{1}, []uint64{3, 4}, 1, 1, 2, []uint64{3, 4})
	if got := ring.Double(api.Label{0, top}); got != (api.Label{135, 0}) {
		t.Errorf("Double {0, 2^63}: %d", got)
	}
}

func TestFloor(t *testing.T) {
	for _, x := range edges() {
		for k := range 64 {
			// big.Int's Div rounds down while the divisor is above 0.
			want := word(new(big.Int).Div(signed(x), new(big.Int).Lsh(big.NewInt(1), uint(k))))
			if got := ring.Floor(x, k); got != want {
				t.Errorf("Floor(%#x, %d): %#x, want %#x", x, k, got, want)
			}
		}
	}
}

func TestFloorOutsideItsShifts(t *testing.T) {
	for _, x := range edges() {
		for _, k := range []int{-1, -2, -63, -64, -65, math.MinInt32, math.MinInt + 1, math.MinInt} {
			if got := ring.Floor(x, k); got != x {
				t.Errorf("Floor(%#x, %d): %#x, want itself", x, k, got)
			}
		}
		var sign uint64
		if x >= top {
			sign = math.MaxUint64
		}
		for _, k := range []int{63, 64, 65, 99, 127, 128, 256, 1 << 32, 1<<32 + 1, math.MaxInt - 1, math.MaxInt} {
			if got := ring.Floor(x, k); got != sign {
				t.Errorf("Floor(%#x, %d): %#x, want %#x", x, k, got, sign)
			}
		}
	}
}

func TestLess(t *testing.T) {
	for _, x := range edges() {
		for _, y := range edges() {
			var want uint64
			if signed(x).Cmp(signed(y)) < 0 {
				want = 1
			}
			if got := ring.Less(x, y); got != want {
				t.Errorf("Less(%#x, %#x): %d, want %d", x, y, got, want)
			}
		}
	}
}

func TestSpread(t *testing.T) {
	for _, x := range edges() {
		var want uint64
		if x%2 == 1 {
			want = math.MaxUint64
		}
		if got := ring.Spread(x); got != want {
			t.Errorf("Spread(%#x): %#x, want %#x", x, got, want)
		}
	}
}

func TestSum(t *testing.T) {
	for _, c := range []struct {
		l    []uint64
		want uint64
	}{
		{nil, 0}, {[]uint64{}, 0}, {[]uint64{0}, 0}, {[]uint64{5}, 5}, {[]uint64{math.MaxUint64}, math.MaxUint64},
		{[]uint64{math.MaxUint64, 1}, 0}, {[]uint64{top, top}, 0}, {[]uint64{top, top, top}, top},
		{[]uint64{1, 2, 3, 4}, 10}, {[]uint64{math.MaxUint64, math.MaxUint64}, math.MaxUint64 - 1},
	} {
		if got := ring.Sum(c.l); got != c.want {
			t.Errorf("Sum(%d): %d, want %d", c.l, got, c.want)
		}
	}
	s := noise(2)
	for n := range 70 {
		l, whole := s.words(n), new(big.Int)
		for _, x := range l {
			whole.Add(whole, new(big.Int).SetUint64(x))
		}
		if got := ring.Sum(l); got != word(whole) {
			t.Errorf("Sum of %d words: %d, want %d", n, got, word(whole))
		}
	}
}

// product is worked out in whole numbers, and only then taken modulo 2^64.
func product(a, b []uint64, m, k, n int) []uint64 {
	var l []uint64
	for i := range m {
		for j := range n {
			whole := new(big.Int)
			for x := range k {
				p := new(big.Int).SetUint64(a[i*k+x])
				whole.Add(whole, p.Mul(p, new(big.Int).SetUint64(b[x*n+j])))
			}
			l = append(l, word(whole))
		}
	}
	return l
}

func checkMat(t *testing.T, a, b []uint64, m, k, n int, want []uint64) {
	t.Helper()
	got, err := ring.Mat(a, b, m, k, n)
	if err != nil || !slices.Equal(got, want) {
		t.Errorf("Mat of %d rows, %d between, %d columns: %v, %d words, want %d", m, k, n, err, len(got), len(want))
	}
}

// refused: ErrRange, and nothing beside it.
func refused(t *testing.T, a, b []uint64, m, k, n int) {
	t.Helper()
	l, err := ring.Mat(a, b, m, k, n)
	if len(l) != 0 || fault.Code(err) != api.ErrRange || !fault.Is(err, api.ErrRange) {
		t.Errorf("Mat of %d and %d words, %d %d %d: %d words, %v", len(a), len(b), m, k, n, len(l), err)
	}
}

func TestMatByHand(t *testing.T) {
	checkMat(t, []uint64{1, 2, 3, 4}, []uint64{5, 6}, 2, 2, 1, []uint64{17, 39})
	checkMat(t, []uint64{1, 2, 3, 4, 5, 6}, []uint64{7, 8, 9, 10, 11, 12}, 2, 3, 2, []uint64{58, 64, 139, 154})
	checkMat(t, []uint64{1, 2, 3}, []uint64{4, 5}, 3, 1, 2, []uint64{4, 5, 8, 10, 12, 15})
	checkMat(t, []uint64{0}, []uint64{9}, 1, 1, 1, []uint64{0})
	// Products and sums past 2^64.
	checkMat(t, []uint64{math.MaxUint64}, []uint64{math.MaxUint64}, 1, 1, 1, []uint64{1})
	checkMat(t, []uint64{top, top}, []uint64{3, 1}, 1, 2, 1, []uint64{0})
	checkMat(t, []uint64{1 << 32}, []uint64{1 << 32, 1 << 31}, 1, 1, 2, []uint64{0, top})
}

func TestMatSmall(t *testing.T) {
	s := noise(3)
	for m := 1; m <= 5; m++ {
		for k := 1; k <= 5; k++ {
			for n := 1; n <= 5; n++ {
				a, b := s.words(m*k), s.words(k*n)
				checkMat(t, a, b, m, k, n, product(a, b, m, k, n))
			}
		}
	}
}

func TestMatGreatest(t *testing.T) {
	s := noise(4)
	const most = 1 << 10
	for _, c := range [][3]int{{most, 1, 1}, {1, most, 1}, {1, 1, most}, {most, most, 1}, {1, most, most}, {most, 1, most}, {3, most, 2}} {
		m, k, n := c[0], c[1], c[2]
		a, b := s.words(m*k), s.words(k*n)
		checkMat(t, a, b, m, k, n, product(a, b, m, k, n))
	}
}

// Lists of the right lengths, and one side too small or too great.
func TestMatSides(t *testing.T) {
	const over = 1<<10 + 1
	s := noise(5)
	for _, c := range [][3]int{{0, 1, 1}, {1, 0, 1}, {1, 1, 0}, {0, 0, 0}, {over, 1, 1}, {1, over, 1}, {1, 1, over}, {over, over, 1}} {
		m, k, n := c[0], c[1], c[2]
		refused(t, s.words(m*k), s.words(k*n), m, k, n)
	}
	// Sides whose product is right, the lower ones by their signs, the greater ones by wrapping round.
	refused(t, s.words(6), s.words(6), -2, -3, -2)
	refused(t, s.words(6), s.words(4), -3, -2, -2)
	refused(t, nil, nil, 1<<32, 1<<32, 1<<32)
	refused(t, nil, s.words(1), 0, 1, 1)
	for _, side := range []int{-1, 0, over, 1 << 32, math.MaxInt, math.MinInt} {
		refused(t, s.words(4), s.words(4), side, 2, 2)
		refused(t, s.words(4), s.words(4), 2, side, 2)
		refused(t, s.words(4), s.words(4), 2, 2, side)
		refused(t, nil, nil, side, side, side)
	}
}

func TestMatLengths(t *testing.T) {
	s := noise(6)
	for m := 1; m <= 3; m++ {
		for k := 1; k <= 3; k++ {
			for n := 1; n <= 3; n++ {
				for off := -1; off <= 1; off += 2 {
					refused(t, s.words(m*k+off), s.words(k*n), m, k, n)
					refused(t, s.words(m*k), s.words(k*n+off), m, k, n)
					refused(t, s.words(m*k+off), s.words(k*n+off), m, k, n)
				}
				refused(t, nil, s.words(k*n), m, k, n)
				refused(t, s.words(m*k), nil, m, k, n)
				refused(t, nil, nil, m, k, n)
			}
		}
	}
	refused(t, s.words(4), s.words(6), 3, 2, 2) // each other's lengths
	refused(t, s.words(4), s.words(6), 2, 3, 2) // as many in all as are wanted
	refused(t, s.words(1), s.words(1), 1<<10, 1<<10, 1<<10)
}

// labels: each bit alone, none, all, and some between them.
func labels() []api.Label {
	l := []api.Label{{}, {math.MaxUint64, math.MaxUint64}, {math.MaxUint64, 0}, {0, math.MaxUint64}, {top, top}, {1, top}, {135, 0}, {135, top}}
	for i := range 128 {
		l = append(l, single(i))
	}
	s := noise(7)
	for range 64 {
		l = append(l, s.label())
	}
	return l
}

// single is the label with the bit i alone.
func single(i int) api.Label {
	var l api.Label
	l[i/64] = 1 << (i % 64)
	return l
}

func bit(l api.Label, i int) uint64 { return l[i/64] >> (i % 64) & 1 }

func TestXor(t *testing.T) {
	for _, a := range labels() {
		for _, b := range labels() {
			got := ring.Xor(a, b)
			for i := range 128 {
				if bit(got, i) != (bit(a, i)+bit(b, i))%2 {
					t.Fatalf("Xor(%#x, %#x): %#x: bit %d", a, b, got, i)
				}
			}
		}
	}
}

func TestDoubleByHand(t *testing.T) {
	for _, c := range []struct{ a, want api.Label }{
		{api.Label{0, 0}, api.Label{0, 0}},
		{api.Label{1, 0}, api.Label{2, 0}},
		{api.Label{top, 0}, api.Label{0, 1}},
		{api.Label{0, 1}, api.Label{0, 2}},
		{api.Label{0, top >> 1}, api.Label{0, top}},
		{api.Label{0, top}, api.Label{135, 0}},
		{api.Label{top, top}, api.Label{135, 1}},
		{api.Label{1, top}, api.Label{133, 0}},      // the bit 1 comes up, and is turned
		{api.Label{1 << 6, top}, api.Label{7, 0}},   // the bit 7 likewise
		{api.Label{1 << 2, top}, api.Label{143, 0}}, // the bit 3 comes up, and stays
		{api.Label{math.MaxUint64, math.MaxUint64}, api.Label{math.MaxUint64 - 1 ^ 135, math.MaxUint64}},
	} {
		if got := ring.Double(c.a); got != c.want {
			t.Errorf("Double(%#x): %#x, want %#x", c.a, got, c.want)
		}
	}
}

func TestDoubleBitByBit(t *testing.T) {
	for _, a := range labels() {
		got := ring.Double(a)
		for i := range 128 {
			var want uint64
			if i > 0 {
				want = bit(a, i-1)
			}
			if i == 0 || i == 1 || i == 2 || i == 7 {
				want ^= bit(a, 127)
			}
			if bit(got, i) != want {
				t.Fatalf("Double(%#x): %#x: bit %d", a, got, i)
			}
		}
	}
}

func TestDoubleOfXor(t *testing.T) {
	for _, a := range labels() {
		for _, b := range labels() {
			if ring.Double(ring.Xor(a, b)) != ring.Xor(ring.Double(a), ring.Double(b)) {
				t.Fatalf("Double of Xor(%#x, %#x)", a, b)
			}
		}
	}
}

// half undoes Double: the lowest bit tells whether the highest was turned out.
func half(a api.Label) api.Label {
	high := a[0] & 1
	if high == 1 {
		a[0] ^= 135
	}
	return api.Label{a[0]>>1 | a[1]<<63, a[1]>>1 | high<<63}
}

func TestDoubleKeepsApart(t *testing.T) {
	seen := map[api.Label]api.Label{}
	for _, a := range labels() {
		d := ring.Double(a)
		if half(d) != a {
			t.Errorf("Double(%#x): %#x, which is Double of %#x", a, d, half(d))
		}
		if b, ok := seen[d]; ok && a != b {
			t.Errorf("Double of %#x and of %#x are one", a, b)
		}
		seen[d] = a
	}
	// The Doubles of the single bits are independent: so, with TestDoubleOfXor, no two labels come together.
	var rows [128]api.Label
	for i := range 128 {
		d := ring.Double(single(i))
		for j := 127; j >= 0; j-- {
			if bit(d, j) == 1 && rows[j] != (api.Label{}) {
				d = ring.Xor(d, rows[j])
			} else if bit(d, j) == 1 {
				rows[j] = d
				break
			}
		}
		if d == (api.Label{}) {
			t.Errorf("Double of the bit %d hangs on those of the lower ones", i)
		}
	}
}

// roomy is a list of n words with spare room behind it, and the whole of both.
func roomy(s *noise, n int) (list, whole []uint64) {
	whole = s.words(n + 8)
	return whole[:n], whole
}

func TestListsStay(t *testing.T) {
	s := noise(8)
	for _, c := range [][5]int{{6, 12, 2, 3, 4}, {6, 12, 2, 3, 5}, {6, 12, 0, 3, 4}, {0, 0, 1, 1, 1}, {14, 20, 2, 3, 4}} {
		a, wholeA := roomy(&s, c[0])
		b, wholeB := roomy(&s, c[1])
		wasA, wasB := slices.Clone(wholeA), slices.Clone(wholeB)
		ring.Mat(a, b, c[2], c[3], c[4])
		ring.Sum(a)
		ring.Sum(b)
		if !slices.Equal(wholeA, wasA) || !slices.Equal(wholeB, wasB) {
			t.Errorf("Mat or Sum, %v: what was handed in is changed", c)
		}
	}
}

func TestOneListTwice(t *testing.T) {
	s := noise(9)
	l, whole := roomy(&s, 9)
	was := slices.Clone(whole)
	checkMat(t, l, l, 3, 3, 3, product(was[:9], was[:9], 3, 3, 3))
	if !slices.Equal(whole, was) {
		t.Error("Mat of a list and itself: it is changed")
	}
}

func TestAnswersAreNewMemory(t *testing.T) {
	s := noise(10)
	// One row and one column, and the factor 1: answers that are as long as what was handed in.
	for _, c := range [][3]int{{1, 1, 6}, {6, 1, 1}, {1, 6, 1}, {2, 3, 4}, {3, 3, 3}} {
		m, k, n := c[0], c[1], c[2]
		a, wholeA := roomy(&s, m*k)
		b, wholeB := roomy(&s, k*n)
		a[0] = 1
		wasA, wasB, want := slices.Clone(wholeA), slices.Clone(wholeB), product(a, b, m, k, n)
		one, _ := ring.Mat(a, b, m, k, n)
		two, _ := ring.Mat(a, b, m, k, n)
		spoil(one)
		if !slices.Equal(wholeA, wasA) || !slices.Equal(wholeB, wasB) {
			t.Errorf("Mat %v: the answer shares memory with what was handed in", c)
		}
		if !slices.Equal(two, want) {
			t.Errorf("Mat %v: two answers share memory", c)
		}
		spoil(wholeA)
		spoil(wholeB)
		if !slices.Equal(two, want) {
			t.Errorf("Mat %v: the answer hangs on what was handed in", c)
		}
		checkMat(t, wasA[:m*k], wasB[:k*n], m, k, n, want)
	}
}

// spoil changes all words of a list, its spare room too: that is the answer's own as well.
func spoil(l []uint64) {
	l = l[:cap(l)]
	for i := range l {
		l[i] = ^l[i]
	}
}

func TestLabelsStay(t *testing.T) {
	a, b := api.Label{1, top}, api.Label{math.MaxUint64, 5}
	x, d := ring.Xor(a, b), ring.Double(a)
	if a != (api.Label{1, top}) || b != (api.Label{math.MaxUint64, 5}) {
		t.Errorf("labels that were handed in are changed: %#x %#x", a, b)
	}
	a[0], b[1] = 0, 0
	if x != (api.Label{math.MaxUint64 - 1, top + 5}) || d != (api.Label{133, 0}) {
		t.Errorf("answers hang on what was handed in: %#x %#x", x, d)
	}
}
