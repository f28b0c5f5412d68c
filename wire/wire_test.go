package wire_test

import (
	"bytes"
	"encoding/binary"
	"errors"
	"hash/fnv"
	"math"
	"math/big"
	"runtime"
	"slices"
	"testing"

	"twain/api"
	"twain/fault"
	"twain/wire"
)

// greatest is the greatest number that is written.
const greatest = 1<<32 - 1

// noise tells the same words in each run.
type noise uint64

func (s *noise) word() uint64 {
	*s += 0x9e3779b97f4a7c15
	x := uint64(*s)
	x = (x ^ x>>30) * 0xbf58476d1ce4e5b9
	x = (x ^ x>>27) * 0x94d049bb133111eb
	return x ^ x>>31
}

func (s *noise) words(n int) []uint64 {
	l := make([]uint64, n)
	for i := range l {
		l[i] = s.word()
	}
	return l
}

func (s *noise) bytes(n int) []byte {
	b := make([]byte, n)
	for i := range b {
		b[i] = byte(s.word())
	}
	return b
}

// numbers: all short ones, those at which a bit or a byte more is wanted, the greatest, and some between.
func numbers() []int {
	var l []int
	for n := range 1 << 15 {
		l = append(l, n)
	}
	for i := range 33 {
		for n := 1<<i - 3; n <= 1<<i+3; n++ {
			if n >= 0 && n <= greatest {
				l = append(l, n)
			}
		}
	}
	s := noise(1)
	for range 2000 {
		l = append(l, int(s.word()>>(32+s.word()%32)))
	}
	return l
}

// noNumbers: those just outside, far outside, and those that cut to 32 bits would be numbers.
func noNumbers() []int {
	return []int{-1, -2, -128, math.MinInt32, -1 << 32, math.MinInt, math.MinInt + 1, 1 << 32, 1<<32 + 1, 1<<32 + 5, 1 << 33, 1<<35 - 1, 1 << 35, 1 << 40, 1 << 62, math.MaxInt}
}

// digits: a number's bytes, by the words of the chapter, in whole numbers.
func digits(n int) []byte {
	l := []byte{byte(n % 128)}
	for n /= 128; n > 0; n /= 128 {
		l[len(l)-1] += 128
		l = append(l, byte(n%128))
	}
	return l
}

// bytesOf: a message's bytes, by Go's own encodings.
func bytesOf(round int, words []uint64) []byte {
	b := binary.AppendUvarint(nil, uint64(round))
	b = binary.AppendUvarint(b, uint64(len(words)))
	for _, w := range words {
		b = binary.LittleEndian.AppendUint64(b, w)
	}
	return b
}

// front: what TakeNumber must tell, by Go's own reading: a number counts if, written anew, it is what stands there.
func front(b []byte) (int, int) {
	n, size := binary.Uvarint(b)
	if size <= 0 || n > greatest || !bytes.HasPrefix(b, digits(int(n))) {
		return 0, 0
	}
	return int(n), size
}

func checkNumber(t *testing.T, n int, want []byte) {
	t.Helper()
	if b, err := wire.Number(n); err != nil || !bytes.Equal(b, want) {
		t.Errorf("Number(%d): %v, %v, want %v", n, b, err, want)
	}
}

func checkTake(t *testing.T, b []byte, wantN, wantSize int) {
	t.Helper()
	if n, size := wire.TakeNumber(b); n != wantN || size != wantSize {
		t.Errorf("TakeNumber(%v): %d, %d, want %d, %d", b, n, size, wantN, wantSize)
	}
}

// checkCode: is err of this number, for each way to ask?
func checkCode(t *testing.T, what string, err error, want api.Errno) {
	t.Helper()
	var code api.Errno
	if fault.Code(err) != want || !errors.Is(err, want) || !errors.As(err, &code) || code != want {
		t.Errorf("%s: error %v, want %v", what, err, want)
	}
}

func checkRefusedEncode(t *testing.T, m wire.Message, want api.Errno) {
	t.Helper()
	b, err := wire.Encode(m)
	checkCode(t, "Encode", err, want)
	if len(b) != 0 {
		t.Errorf("Encode: %d bytes beside an error", len(b))
	}
}

func checkRefused(t *testing.T, b []byte) {
	t.Helper()
	m, err := wire.Decode(b)
	if fault.Code(err) != api.ErrWire {
		t.Errorf("Decode of %d bytes, %v: %v, want ErrWire", len(b), b[:min(len(b), 30)], err)
	}
	if m.Round != 0 || len(m.Words) != 0 {
		t.Errorf("Decode of %d bytes: a message beside an error: %d, %d words", len(b), m.Round, len(m.Words))
	}
}

// checkThere: encoded it has just these bytes, and these are decoded to it.
func checkThere(t *testing.T, round int, words []uint64) {
	t.Helper()
	want := bytesOf(round, words)
	b, err := wire.Encode(wire.Message{Round: round, Words: words})
	if err != nil || !bytes.Equal(b, want) {
		t.Errorf("Encode of round %d, %d words: %d bytes, %v, want %d", round, len(words), len(b), err, len(want))
	}
	m, err := wire.Decode(want)
	if err != nil || m.Round != round || !slices.Equal(m.Words, words) {
		t.Errorf("Decode of round %d, %d words: %d, %d words, %v", round, len(words), m.Round, len(m.Words), err)
	}
}

// checkSame: if the bytes are decoded, then they are what Encode makes of the message; else it is ErrWire. Answers whether they are.
func checkSame(t *testing.T, b []byte) bool {
	t.Helper()
	m, err := wire.Decode(b)
	if err != nil {
		checkRefused(t, b)
		return false
	}
	again, err := wire.Encode(m)
	if err != nil || !bytes.Equal(again, b) {
		t.Errorf("%v is decoded to %v, which is encoded to %v, %v", b, m, again, err)
	}
	return true
}

func TestExamples(t *testing.T) {
	want := []byte{172, 2, 1, 5, 0, 0, 0, 0, 0, 0, 0}
	b, err := wire.Encode(wire.Message{Round: 300, Words: []uint64{5}})
	if err != nil || !bytes.Equal(b, want) {
		t.Errorf("Encode: %v, %v", b, err)
	}
	m, err := wire.Decode(want)
	if err != nil || m.Round != 300 || !slices.Equal(m.Words, []uint64{5}) {
		t.Errorf("Decode: %v, %v", m, err)
	}
	checkTake(t, []byte{128, 0}, 0, 0)
	checkRefused(t, nil)
	checkRefused(t, []byte{})
	checkRefused(t, append(slices.Clone(want), 0))
	if d := wire.Digest(nil); d != [2]uint64{14695981039346656037, 14695981039346656038} {
		t.Errorf("Digest of no bytes: %d", d)
	}
}

func TestNumberWritten(t *testing.T) {
	for n, want := range map[int][]byte{
		0: {0}, 1: {1}, 127: {127}, 128: {128, 1}, 129: {129, 1}, 300: {172, 2}, 16383: {255, 127}, 16384: {128, 128, 1},
		1<<21 - 1: {255, 255, 127}, 1 << 21: {128, 128, 128, 1}, 1<<28 - 1: {255, 255, 255, 127},
		1 << 28: {128, 128, 128, 128, 1}, 1 << 31: {128, 128, 128, 128, 8}, greatest: {255, 255, 255, 255, 15},
	} {
		checkNumber(t, n, want)
		checkTake(t, want, n, len(want))
	}
	for _, n := range numbers() {
		checkNumber(t, n, digits(n))
		checkNumber(t, n, binary.AppendUvarint(nil, uint64(n)))
	}
}

func TestNumberRefused(t *testing.T) {
	for _, n := range noNumbers() {
		b, err := wire.Number(n)
		checkCode(t, "Number", err, api.ErrRange)
		if len(b) != 0 {
			t.Errorf("Number(%d): %v beside an error", n, b)
		}
	}
}

func TestNumberTakenBack(t *testing.T) {
	for _, n := range numbers() {
		b, err := wire.Number(n)
		if err != nil {
			t.Fatal(err)
		}
		checkTake(t, b, n, len(b))
		for _, behind := range [][]byte{{0}, {1}, {127}, {128}, {255, 255, 255, 255, 255, 255}, {0, 0, 0}} {
			checkTake(t, append(slices.Clone(b), behind...), n, len(b))
		}
		for cut := range b {
			checkTake(t, b[:cut], 0, 0)
		}
	}
}

// Every list of up to three bytes: whether it is a number, which one, and how long.
func TestTakeOfShortLists(t *testing.T) {
	checkTake(t, nil, 0, 0)
	checkTake(t, []byte{}, 0, 0)
	for i := range 1 << 24 {
		b := []byte{byte(i), byte(i >> 8), byte(i >> 16)}
		wantN, wantSize := front(b)
		if n, size := wire.TakeNumber(b); n != wantN || size != wantSize {
			t.Fatalf("TakeNumber(%v): %d, %d, want %d, %d", b, n, size, wantN, wantSize)
		}
		if i < 1<<16 {
			n, size := front(b[:2])
			checkTake(t, b[:2], n, size)
		}
		if i < 1<<8 {
			n, size := front(b[:1])
			checkTake(t, b[:1], n, size)
		}
	}
}

// The fifth byte holds four bits more: all of them, behind bytes of each kind.
func TestTakeOfLongLists(t *testing.T) {
	for _, low := range []byte{128, 129, 200, 255} {
		for last := range 256 {
			b := []byte{low, 255, 128, low, byte(last)}
			n, size := front(b)
			checkTake(t, b, n, size)
			if (size == 5) != (last >= 1 && last <= 15) {
				t.Errorf("%v: size %d", b, size)
			}
			for _, sixth := range []byte{0, 1, 15, 127, 128} {
				n, size = front(append(b, sixth))
				checkTake(t, append(b, sixth), n, size)
			}
		}
	}
}

// More bytes than are allowed: none of these is the number that it seems to be.
func TestTakeRefused(t *testing.T) {
	for _, b := range [][]byte{
		{128}, {255}, {128, 128}, {255, 255, 255, 255}, {128, 0}, {255, 0}, {128, 128, 0}, {129, 128, 0}, {128, 128, 128, 128, 0},
		{172, 130, 0}, {255, 255, 255, 255, 16}, {128, 128, 128, 128, 16}, {128, 128, 128, 128, 127}, {255, 255, 255, 255, 143, 0},
		{128, 128, 128, 128, 128, 1}, {128, 128, 128, 128, 128, 0}, {255, 255, 255, 255, 255, 255, 255, 255, 255, 1},
		{128, 128, 128, 128, 128, 128, 128, 128, 128, 1}, bytes.Repeat([]byte{128}, 100), append(bytes.Repeat([]byte{128}, 100), 1),
		bytes.Repeat([]byte{255}, 1<<16),
	} {
		checkTake(t, b, 0, 0)
	}
}

func TestTakeOfNoise(t *testing.T) {
	s := noise(2)
	for range 200000 {
		b := s.bytes(int(s.word() % 12))
		for i := range b {
			if s.word()%3 > 0 {
				b[i] |= 128
			}
		}
		n, size := front(b)
		checkTake(t, b, n, size)
	}
}

func TestEncodeRounds(t *testing.T) {
	s := noise(3)
	for _, round := range numbers() {
		checkThere(t, round, s.words(int(s.word()%4)))
	}
}

func TestEncodeWords(t *testing.T) {
	checkThere(t, 7, nil)
	checkThere(t, 7, []uint64{})
	for i := range 64 {
		checkThere(t, i, []uint64{1 << i, -(uint64(1) << i), 1<<i - 1})
	}
	checkThere(t, 0, []uint64{0})
	checkThere(t, 0, []uint64{0, math.MaxUint64, 0, 0x0102030405060708})
	b, err := wire.Encode(wire.Message{Round: 1, Words: []uint64{0x0102030405060708, math.MaxUint64}})
	if want := []byte{1, 2, 8, 7, 6, 5, 4, 3, 2, 1, 255, 255, 255, 255, 255, 255, 255, 255}; err != nil || !bytes.Equal(b, want) {
		t.Errorf("Encode: %v, %v, want %v", b, err, want)
	}
}

func TestEncodeLengths(t *testing.T) {
	s := noise(4)
	all := s.words(api.MaxWords)
	for _, n := range []int{0, 1, 2, 3, 126, 127, 128, 129, 255, 256, 257, 16383, 16384, 16385, api.MaxWords - 1, api.MaxWords} {
		checkThere(t, 5, all[:n])
		checkThere(t, greatest, all[:n])
	}
	for n := range 300 {
		checkThere(t, n, all[n:2*n])
	}
}

func TestEncodeRefused(t *testing.T) {
	full, long := make([]uint64, api.MaxWords), make([]uint64, api.MaxWords+1)
	for _, round := range noNumbers() {
		for _, words := range [][]uint64{nil, {1}, full, long} {
			checkRefusedEncode(t, wire.Message{Round: round, Words: words}, api.ErrRange)
		}
	}
	for _, round := range []int{0, 1, 300, greatest} {
		for _, words := range [][]uint64{long, make([]uint64, 2*api.MaxWords), make([]uint64, 1<<20)} {
			checkRefusedEncode(t, wire.Message{Round: round, Words: words}, api.ErrLong)
		}
	}
}

func TestDecodeTooManyWords(t *testing.T) {
	for _, n := range []int{api.MaxWords + 1, api.MaxWords + 2, 2 * api.MaxWords, 1 << 21} {
		checkRefused(t, bytesOf(3, make([]uint64, n)))
	}
}

// A count that the words behind it don't bear out, however great: no room is made for them.
func TestDecodeWrongCount(t *testing.T) {
	s := noise(5)
	words := s.words(3)
	for _, count := range []int{0, 1, 2, 4, 5, 127, 128, api.MaxWords - 1, api.MaxWords, api.MaxWords + 1, 1 << 29, 1<<29 + 3, 1 << 31, greatest} {
		b := append(digits(9), digits(count)...)
		for _, w := range words {
			b = binary.LittleEndian.AppendUint64(b, w)
		}
		checkRefused(t, b)
	}
	var was, is runtime.MemStats
	runtime.ReadMemStats(&was)
	checkRefused(t, append([]byte{0}, digits(api.MaxWords)...))
	checkRefused(t, append([]byte{0}, digits(greatest)...))
	runtime.ReadMemStats(&is)
	if room := is.TotalAlloc - was.TotalAlloc; room > 1<<16 {
		t.Errorf("a count alone made room of %d bytes", room)
	}
}

func TestDecodeCutOrLonger(t *testing.T) {
	s := noise(6)
	for n := range 20 {
		b := bytesOf(int(s.word()>>(32+n)), s.words(n))
		for cut := range b {
			checkRefused(t, b[:cut])
		}
		for more := 1; more < 20; more++ {
			checkRefused(t, append(slices.Clone(b), s.bytes(more)...))
			checkRefused(t, append(slices.Clone(b), make([]byte, more)...))
		}
	}
}

// longer: the same number in a byte more than it needs.
func longer(n int) []byte {
	b := digits(n)
	b[len(b)-1] += 128
	return append(b, 0)
}

func TestDecodeLongNumbers(t *testing.T) {
	for _, round := range []int{0, 1, 127, 128, 300, 1 << 20, 1 << 28, greatest} {
		checkRefused(t, append(longer(round), 0))
		checkRefused(t, append(digits(round), longer(0)...))
		one := append(append(digits(round), longer(1)...), 1, 2, 3, 4, 5, 6, 7, 8)
		checkRefused(t, one)
	}
	for _, head := range [][]byte{{128, 128, 128, 128, 16}, {255, 255, 255, 255, 127}, {128, 128, 128, 128, 128, 1}} {
		checkRefused(t, append(slices.Clone(head), 0))
		checkRefused(t, append([]byte{0}, head...))
	}
}

// Every list of up to three bytes: decoded is just what a message without words is encoded to.
func TestDecodeOfShortLists(t *testing.T) {
	made := map[[4]byte]int{}
	for round := range 1 << 14 {
		b, err := wire.Encode(wire.Message{Round: round})
		if err != nil || len(b) > 3 {
			t.Fatalf("Encode of round %d: %v, %v", round, b, err)
		}
		made[[4]byte{0: byte(len(b)), 1: b[0], 2: b[1], 3: append(b, 0)[2]}] = round + 1
	}
	for i := range 1 << 24 {
		whole := []byte{byte(i), byte(i >> 8), byte(i >> 16)}
		for n := 2; n <= 3; n++ {
			if n == 2 && i >= 1<<16 {
				continue
			}
			key := [4]byte{0: byte(n), 1: whole[0], 2: whole[1]}
			if n == 3 {
				key[3] = whole[2]
			}
			m, err := wire.Decode(whole[:n])
			if want := made[key]; (err == nil) != (want > 0) || err == nil && (m.Round != want-1 || len(m.Words) != 0) {
				t.Fatalf("Decode(%v): %v, %v", whole[:n], m, err)
			}
		}
	}
	for i := range 256 {
		checkRefused(t, []byte{byte(i)})
	}
}

// A message's bytes with one bit turned, one byte left out, put in or doubled: what is decoded is encoded to just that.
func TestDecodeOfSpoiltMessages(t *testing.T) {
	s := noise(7)
	decoded := 0
	for n := range 6 {
		for _, shift := range []uint64{32, 40, 50, 57, 60} {
			b := bytesOf(int(s.word()>>shift), s.words(n))
			for at := range b {
				for bit := range 8 {
					turned := slices.Clone(b)
					turned[at] ^= 1 << bit
					if checkSame(t, turned) {
						decoded++
					}
				}
				checkSame(t, slices.Delete(slices.Clone(b), at, at+1))
				checkSame(t, slices.Insert(slices.Clone(b), at, byte(0)))
				checkSame(t, slices.Insert(slices.Clone(b), at, b[at]))
				checkSame(t, slices.Insert(slices.Clone(b), at, byte(128)))
			}
		}
	}
	if decoded == 0 {
		t.Error("none of the turned ones was decoded")
	}
}

func TestDecodeOfNoise(t *testing.T) {
	s := noise(8)
	for range 50000 {
		b := s.bytes(int(s.word() % 30))
		for i := range min(len(b), 4) {
			b[i] >>= s.word() % 8
		}
		checkSame(t, b)
	}
}

// Two messages have never the same bytes.
func TestMessagesKeepApart(t *testing.T) {
	seen := map[string]int{}
	count := 0
	for round := range 300 {
		for _, words := range [][]uint64{nil, {0}, {1}, {1 << 56}, {0, 0}, {1, 0}, {0, 1}} {
			b, err := wire.Encode(wire.Message{Round: round, Words: words})
			if err != nil {
				t.Fatal(err)
			}
			seen[string(b)]++
			count++
		}
	}
	if len(seen) != count {
		t.Errorf("%d messages, %d encodings", count, len(seen))
	}
}

// digest works by whole numbers.
func digest(b []byte, k int64) uint64 {
	start, _ := new(big.Int).SetString("14695981039346656037", 10)
	d, whole := start.Add(start, big.NewInt(k)), new(big.Int).Lsh(big.NewInt(1), 64)
	for _, c := range b {
		d.Xor(d, big.NewInt(int64(c)))
		d.Mul(d, big.NewInt(1099511628211))
		d.Mod(d, whole)
	}
	return d.Uint64()
}

func TestDigest(t *testing.T) {
	s := noise(9)
	lists := [][]byte{nil, {}, {0}, {0, 0}, {1}, {255}, []byte("a"), []byte("foobar"), make([]byte, 1000)}
	for i := range 256 {
		lists = append(lists, []byte{byte(i)}, s.bytes(i))
	}
	for _, b := range lists {
		h := fnv.New64a()
		h.Write(b)
		d := wire.Digest(b)
		if d[0] != h.Sum64() || d[0] != digest(b, 0) || d[1] != digest(b, 1) {
			t.Errorf("Digest(%v): %x, want %x, %x", b, d, digest(b, 0), digest(b, 1))
		}
	}
	if d := wire.Digest([]byte("foobar")); d[0] != 0x85944171f73967e8 {
		t.Errorf("Digest of foobar: %x", d)
	}
	long := s.bytes(1 << 20)
	if d := wire.Digest(long); d[0] != digest(long, 0) || d[1] != digest(long, 1) {
		t.Errorf("Digest of 2^20 bytes: %x", d)
	}
}

// The order of the bytes, and each of them, counts.
func TestDigestsKeepApart(t *testing.T) {
	seen := map[[2]uint64]int{}
	for i := range 1 << 16 {
		d := wire.Digest([]byte{byte(i), byte(i >> 8)})
		if other, ok := seen[d]; ok {
			t.Fatalf("%x and %x have one digest", i, other)
		}
		seen[d] = i
	}
}

func TestWhatIsHandedInStays(t *testing.T) {
	s := noise(10)
	for n := range 12 {
		words := s.words(n + 5)
		wordsWere := slices.Clone(words)
		m := wire.Message{Round: 300 + n, Words: words[:n]}
		if _, err := wire.Encode(m); err != nil || m.Round != 300+n || len(m.Words) != n || !slices.Equal(words, wordsWere) {
			t.Errorf("Encode: %v; the message or its spare room is changed: %v, %v", err, m, words)
		}
		good := append(bytesOf(n, words[:n]), s.bytes(20)...)
		goodWas := slices.Clone(good)
		for size := range good {
			wire.Decode(good[:size])
			wire.TakeNumber(good[:size])
			wire.Digest(good[:size])
			if !bytes.Equal(good, goodWas) {
				t.Fatalf("of %d bytes: they or their spare room are changed: %v", size, good)
			}
		}
	}
	bad := wire.Message{Round: -1, Words: []uint64{1, 2, 3}}
	wire.Encode(bad)
	if bad.Round != -1 || !slices.Equal(bad.Words, []uint64{1, 2, 3}) {
		t.Errorf("the message that was refused is changed: %v", bad)
	}
}

// spoilWords and spoilBytes write up to the end of the spare room.
func spoilWords(l []uint64) {
	for i := range l[:cap(l)] {
		l[:cap(l)][i] ^= math.MaxUint64
	}
}

func spoilBytes(b []byte) {
	for i := range b[:cap(b)] {
		b[:cap(b)][i] ^= 255
	}
}

func TestWhatIsHandedInIsNotKept(t *testing.T) {
	s := noise(11)
	for n := range 12 {
		words := s.words(n)
		want := bytesOf(300, words)
		given := slices.Clone(words)
		b, err := wire.Encode(wire.Message{Round: 300, Words: given})
		spoilWords(given)
		if err != nil || !bytes.Equal(b, want) {
			t.Errorf("the bytes hang on the words that were handed in: %v, %v", b, err)
		}
		m, err := wire.Decode(b)
		spoilBytes(b)
		if err != nil || m.Round != 300 || !slices.Equal(m.Words, words) {
			t.Errorf("the message hangs on the bytes that were handed in: %v, %v", m, err)
		}
	}
}

func TestAnswersAreNewMemory(t *testing.T) {
	s := noise(12)
	for n := range 12 {
		words := s.words(n)
		m := wire.Message{Round: 300, Words: slices.Clone(words)}
		want := bytesOf(300, words)
		one, _ := wire.Encode(m)
		two, _ := wire.Encode(m)
		spoilBytes(one)
		// Ahead of a further call, which could write the right bytes into shared memory again.
		if !bytes.Equal(two, want) || !slices.Equal(m.Words, words) {
			t.Errorf("Encode: an answer shares memory: %v, %v", two, m.Words)
		}
		checkThere(t, 300, words)
		first, _ := wire.Decode(two)
		second, _ := wire.Decode(two)
		spoilWords(first.Words)
		if !slices.Equal(second.Words, words) || !bytes.Equal(two, want) {
			t.Errorf("Decode: an answer shares memory: %v, %v", second.Words, two)
		}
		checkThere(t, 300, words)
	}
	for _, n := range []int{0, 1, 127, 128, 300, 1 << 20, greatest} {
		one, _ := wire.Number(n)
		two, _ := wire.Number(n)
		spoilBytes(one)
		if !bytes.Equal(two, digits(n)) {
			t.Errorf("two answers of Number(%d) share memory: %v", n, two)
		}
		checkNumber(t, n, digits(n))
	}
	d := wire.Digest([]byte("a"))
	d[0], d[1] = 0, 0
	if wire.Digest([]byte("a"))[0] != 0xaf63dc4c8601ec8c {
		t.Error("Digest: an answer shares memory")
	}
}

func FuzzDecode(f *testing.F) {
	f.Add([]byte{})
	f.Add([]byte{172, 2, 1, 5, 0, 0, 0, 0, 0, 0, 0})
	f.Add([]byte{128, 0, 0})
	f.Add([]byte{255, 255, 255, 255, 15, 0})
	f.Fuzz(func(t *testing.T, b []byte) {
		checkSame(t, b)
		n, size := front(b)
		checkTake(t, b, n, size)
	})
}
