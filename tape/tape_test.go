package tape_test

import (
	"crypto/aes"
	"encoding/binary"
	"errors"
	"math"
	"slices"
	"testing"

	"twain/api"
	"twain/fault"
	"twain/tape"
)

// most is the greatest number of words that a seed's tape has.
const most = 1 << 20

// noise tells the same words in each run.
type noise uint64

func (s *noise) word() uint64 {
	*s += 0x9e3779b97f4a7c15
	x := uint64(*s)
	x = (x ^ x>>30) * 0xbf58476d1ce4e5b9
	x = (x ^ x>>27) * 0x94d049bb133111eb
	return x ^ x>>31
}

func (s *noise) words(n int) []uint64 {
	l := make([]uint64, n)
	for i := range l {
		l[i] = s.word()
	}
	return l
}

// stream: the first n words of a seed's stream, by Go's own AES.
func stream(t testing.TB, seed [16]byte, n int) []uint64 {
	t.Helper()
	c, err := aes.NewCipher(seed[:])
	if err != nil {
		t.Fatal(err)
	}
	l := make([]uint64, n)
	for i := range l {
		var in, out [16]byte
		binary.LittleEndian.PutUint64(in[:], uint64(i/2))
		c.Encrypt(out[:], in[:])
		l[i] = binary.LittleEndian.Uint64(out[8*(i%2):])
	}
	return l
}

// seeds: all bytes alike, each byte's place told, a lone bit at either end.
func seeds() [][16]byte {
	l := [][16]byte{{}, {1}, {15: 1}, {15: 128}, {0: 255, 15: 255}}
	var rising, full [16]byte
	for i := range 16 {
		rising[i], full[i] = byte(i), 255
	}
	l = append(l, rising, full)
	s := noise(1)
	for range 3 {
		var b [16]byte
		binary.LittleEndian.PutUint64(b[:8], s.word())
		binary.LittleEndian.PutUint64(b[8:], s.word())
		l = append(l, b)
	}
	return l
}

// checkEnd: is err an ErrTape, for each way to ask?
func checkEnd(t *testing.T, err error) {
	t.Helper()
	var code api.Errno
	if fault.Code(err) != api.ErrTape || !errors.Is(err, api.ErrTape) || !errors.As(err, &code) || code != 40 {
		t.Errorf("error %v, want ErrTape", err)
	}
}

func checkNext(t *testing.T, a *tape.Tape, want uint64) {
	t.Helper()
	if x, err := a.Next(); x != want || err != nil {
		t.Errorf("Next: %d, %v, want %d", x, err, want)
	}
}

func checkLabel(t *testing.T, a *tape.Tape, want api.Label) {
	t.Helper()
	if l, err := a.Label(); l != want || err != nil {
		t.Errorf("Label: %v, %v, want %v", l, err, want)
	}
}

func checkNoNext(t *testing.T, a *tape.Tape) {
	t.Helper()
	x, err := a.Next()
	checkEnd(t, err)
	if x != 0 {
		t.Errorf("Next: %d beside an error", x)
	}
}

func checkNoLabel(t *testing.T, a *tape.Tape) {
	t.Helper()
	l, err := a.Label()
	checkEnd(t, err)
	if l != (api.Label{}) {
		t.Errorf("Label: %v beside an error", l)
	}
}

func checkCounts(t *testing.T, a *tape.Tape, used, left int) {
	t.Helper()
	if a.Used() != used || a.Left() != left {
		t.Errorf("Used %d, Left %d, want %d and %d", a.Used(), a.Left(), used, left)
	}
}

// follow makes the calls of a list (true: Label) and holds each answer against what the tape's words say.
func follow(t *testing.T, a *tape.Tape, words []uint64, calls []bool) {
	t.Helper()
	used := 0
	checkCounts(t, a, 0, len(words))
	for _, label := range calls {
		left := len(words) - used
		switch {
		case label && left < 2:
			checkNoLabel(t, a)
		case label:
			checkLabel(t, a, api.Label{words[used], words[used+1]})
			used += 2
		case left < 1:
			checkNoNext(t, a)
		default:
			checkNext(t, a, words[used])
			used++
		}
		checkCounts(t, a, used, len(words)-used)
	}
}

// everyList: all lists of n calls.
func everyList(n int) [][]bool {
	var l [][]bool
	for bits := range 1 << n {
		calls := make([]bool, n)
		for i := range calls {
			calls[i] = bits>>i&1 == 1
		}
		l = append(l, calls)
	}
	return l
}

func TestExamples(t *testing.T) {
	a := tape.Load([]uint64{5, 6, 7})
	checkNext(t, a, 5)
	checkLabel(t, a, api.Label{6, 7})
	checkNoNext(t, a)
	checkCounts(t, a, 3, 0)
	b := tape.Load([]uint64{5})
	checkNoLabel(t, b)
	checkNext(t, b, 5)
	checkCounts(t, b, 1, 0)
}

func TestEveryListOfCalls(t *testing.T) {
	s := noise(2)
	seed := [16]byte{3, 1, 4}
	for n := range 8 {
		loaded, seeded := s.words(n), stream(t, seed, n)
		for _, calls := range everyList(9) {
			follow(t, tape.Load(loaded), loaded, calls)
			follow(t, tape.New(seed, n), seeded, calls)
		}
	}
}

func TestLongListsOfCalls(t *testing.T) {
	s := noise(3)
	for _, seed := range seeds() {
		n := int(s.word() % 300)
		calls := make([]bool, n+10)
		for i := range calls {
			calls[i] = s.word()%3 == 0
		}
		words := s.words(n)
		follow(t, tape.Load(words), words, calls)
		follow(t, tape.New(seed, n), stream(t, seed, n), calls)
	}
}

// The words at the edges are words like others: a 0 isn't an end.
func TestWordsAtTheEdges(t *testing.T) {
	words := []uint64{0, 0, math.MaxUint64, 1 << 63, 1, 0, 0}
	for _, calls := range everyList(len(words)) {
		follow(t, tape.Load(words), words, calls)
	}
}

func TestLabelTakesNoneOfTooFew(t *testing.T) {
	for _, a := range []*tape.Tape{tape.Load([]uint64{7, 8, 9}), tape.New([16]byte{9}, 3)} {
		a.Label()
		for range 5 {
			checkNoLabel(t, a)
			checkCounts(t, a, 2, 1)
		}
		if _, err := a.Next(); err != nil {
			t.Errorf("Next behind a Label that was refused: %v", err)
		}
		for range 5 {
			checkNoNext(t, a)
			checkNoLabel(t, a)
			checkCounts(t, a, 3, 0)
		}
	}
}

func TestEmptyTapes(t *testing.T) {
	room := []uint64{1, 2, 3, 4}
	empty := []*tape.Tape{
		tape.Load(nil), tape.Load([]uint64{}), tape.Load(room[:0]), tape.New([16]byte{}, 0),
		tape.New([16]byte{1}, -1), tape.New([16]byte{2}, -most-1), tape.New([16]byte{3}, math.MinInt),
	}
	for _, a := range empty {
		for range 3 {
			checkCounts(t, a, 0, 0)
			checkNoNext(t, a)
			checkNoLabel(t, a)
		}
	}
}

func TestLengthOfASeedsTape(t *testing.T) {
	cases := []struct{ asked, want int }{
		{math.MinInt, 0}, {-most, 0}, {-2, 0}, {-1, 0}, {0, 0}, {1, 1}, {2, 2}, {3, 3}, {1 << 16, 1 << 16}, {1<<16 + 1, 1<<16 + 1},
		{most - 1, most - 1}, {most, most}, {most + 1, most}, {1 << 32, most}, {1<<32 + 5, most}, {1 << 40, most}, {math.MaxInt, most},
	}
	for _, c := range cases {
		a := tape.New([16]byte{5}, c.asked)
		if a.Left() != c.want || a.Used() != 0 {
			t.Errorf("New of %d words: Used %d, Left %d, want 0 and %d", c.asked, a.Used(), a.Left(), c.want)
		}
	}
}

// walk takes all words, and looks at the end.
func walk(t *testing.T, a *tape.Tape, words []uint64) {
	t.Helper()
	for i, want := range words {
		if x, err := a.Next(); x != want || err != nil {
			t.Fatalf("Next: the word %d: %d, %v, want %d", i, x, err, want)
		}
	}
	checkCounts(t, a, len(words), 0)
	checkNoNext(t, a)
	checkNoLabel(t, a)
}

func TestLongestTapeOfASeed(t *testing.T) {
	seed := [16]byte{1, 2, 3}
	walk(t, tape.New(seed, math.MaxInt), stream(t, seed, most))
}

// The greatest number of a seed's tape isn't one of a loaded tape.
func TestLoadedTapeIsLonger(t *testing.T) {
	s := noise(4)
	words := s.words(most + 3)
	walk(t, tape.Load(words), words)
}

func TestShorterTapeBeginsTheLonger(t *testing.T) {
	for _, seed := range seeds() {
		words := stream(t, seed, 40)
		for _, n := range []int{1, 2, 3, 39, 40} {
			walk(t, tape.New(seed, n), words[:n])
		}
	}
}

func TestSeedsKeepApart(t *testing.T) {
	seen := map[api.Label][16]byte{}
	for place := range 16 * 8 {
		var seed [16]byte
		seed[place/8] = 1 << (place % 8)
		l, err := tape.New(seed, 2).Label()
		if other, ok := seen[l]; ok || err != nil {
			t.Errorf("the seeds %v and %v begin alike: %v, %v", seed, other, l, err)
		}
		seen[l] = seed
	}
}

// told is all that a call and the counts behind it answer.
type told struct {
	word       uint64
	label      api.Label
	text       string
	used, left int
}

func answers(a *tape.Tape, calls []bool) []told {
	var l []told
	for _, label := range calls {
		var one told
		var err error
		if label {
			one.label, err = a.Label()
		} else {
			one.word, err = a.Next()
		}
		one.text, one.used, one.left = fault.Text(err), a.Used(), a.Left()
		l = append(l, one)
	}
	return l
}

// drained: the words that a seed's tape itself tells.
func drained(t *testing.T, a *tape.Tape) []uint64 {
	t.Helper()
	var l []uint64
	for a.Left() > 0 {
		x, err := a.Next()
		if err != nil {
			t.Fatal(err)
		}
		l = append(l, x)
	}
	return l
}

func TestSeededAndLoadedAnswerAlike(t *testing.T) {
	for _, seed := range seeds() {
		for n := -1; n < 7; n++ {
			words := stream(t, seed, max(n, 0))
			if own := drained(t, tape.New(seed, n)); !slices.Equal(own, words) {
				t.Errorf("seed %v, %d words: %v, want %v", seed, n, own, words)
			}
			for _, calls := range everyList(6) {
				one, two := answers(tape.New(seed, n), calls), answers(tape.Load(words), calls)
				if !slices.Equal(one, two) {
					t.Errorf("seed %v, %d words, calls %v: %v, loaded %v", seed, n, calls, one, two)
				}
			}
		}
	}
}

func TestWhatIsHandedInStays(t *testing.T) {
	s := noise(5)
	for n := range 9 {
		whole := s.words(n + 8)
		was := slices.Clone(whole)
		follow(t, tape.Load(whole[:n]), was[:n], []bool{false, true, true, false, true, false, false, false, true})
		if !slices.Equal(whole, was) {
			t.Errorf("%d words: the list that was loaded, or its spare room, is changed", n)
		}
	}
	seed := [16]byte{1, 2, 3}
	drained(t, tape.New(seed, 5))
	if seed != ([16]byte{1, 2, 3}) {
		t.Errorf("the seed is changed: %v", seed)
	}
}

func TestWhatIsHandedInIsNotKept(t *testing.T) {
	s := noise(6)
	for n := range 9 {
		whole := s.words(n + 8)
		was := slices.Clone(whole)
		fresh, begun := tape.Load(whole[:n]), tape.Load(whole[:n])
		begun.Next()
		for i := range whole {
			whole[i] = ^whole[i]
		}
		walk(t, fresh, was[:n])
		if rest := drained(t, begun); !slices.Equal(rest, was[min(1, n):n]) {
			t.Errorf("%d words: the tape changed with the list that was loaded: %v", n, rest)
		}
	}
	seed := [16]byte{1, 2, 3}
	a := tape.New(seed, 5)
	want := stream(t, seed, 5)
	seed[0] = 77
	walk(t, a, want)
}

// Tapes of one list or one seed are used up each on its own, and a label that was answered is the caller's.
func TestTapesKeepApart(t *testing.T) {
	seed := [16]byte{8}
	words := stream(t, seed, 6)
	pairs := [][2]*tape.Tape{
		{tape.Load(words), tape.Load(words)},
		{tape.New(seed, 6), tape.New(seed, 6)},
		{tape.New(seed, 6), tape.Load(words)},
	}
	for _, p := range pairs {
		l, err := p[0].Label()
		if err != nil {
			t.Fatal(err)
		}
		l[0], l[1] = 0, 0
		checkCounts(t, p[1], 0, 6)
		checkLabel(t, p[1], api.Label{words[0], words[1]})
		if rest := drained(t, p[0]); !slices.Equal(rest, words[2:]) {
			t.Errorf("the first tape went on with %v, want %v", rest, words[2:])
		}
		if rest := drained(t, p[1]); !slices.Equal(rest, words[2:]) {
			t.Errorf("the second tape went on with %v, want %v", rest, words[2:])
		}
	}
}

func TestCountsChangeNothing(t *testing.T) {
	a := tape.Load([]uint64{4, 5})
	for range 4 {
		checkCounts(t, a, 0, 2)
	}
	checkLabel(t, a, api.Label{4, 5})
	for range 4 {
		checkCounts(t, a, 2, 0)
	}
}

func BenchmarkNext(b *testing.B) {
	a := tape.New([16]byte{1}, most)
	for b.Loop() {
		if a.Left() == 0 {
			a = tape.New([16]byte{1}, most)
		}
		a.Next()
	}
}
