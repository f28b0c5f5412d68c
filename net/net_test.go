package net_test

import (
	"bytes"
	"errors"
	"math"
	"slices"
	"testing"

	"twain/api"
	"twain/fault"
	"twain/net"
)

// noise tells the same words in each run.
type noise uint64

func (s *noise) word() uint64 {
	*s += 0x9e3779b97f4a7c15
	x := uint64(*s)
	x = (x ^ x>>30) * 0xbf58476d1ce4e5b9
	x = (x ^ x>>27) * 0x94d049bb133111eb
	return x ^ x>>31
}

// below: a number from 0 to n - 1.
func (s *noise) below(n int) int { return int(s.word() % uint64(n)) }

func (s *noise) bytes(n int) []byte {
	b := make([]byte, n)
	for i := range b {
		b[i] = byte(s.word())
	}
	return b
}

// some: as bytes does, of a noise that nobody goes on with.
func (s noise) some(n int) []byte { return s.bytes(n) }

// noWays: those just outside, far outside, and those that cut to fewer bits would be ways.
func noWays() []int {
	return []int{-1, -2, 2, 3, 256, 257, 1 << 32, 1<<32 + 1, math.MaxInt, math.MinInt, math.MinInt + 1}
}

// outside: numbers that aren't from 0 to n - 1: just outside, far outside, and cut to fewer bits inside.
func outside(n int) []int {
	return []int{-1, -2, -n, -n - 1, -8, -64, n, n + 1, 2*n + 1, 1 << 32, 1 << 61, 1 << 62, math.MaxInt, math.MaxInt - 7, math.MinInt, math.MinInt + 8}
}

// act is which method a call is of.
type act int

const (
	send act = iota
	at
	deliver
	drop
	double
	flip
	acts
)

type call struct {
	act         act
	way, i, bit int
	frame       string
}

// model holds the frames under way as texts, which nothing can share or change, and answers by the words of the chapter.
type model [2][]string

func (m *model) without(way, i int) []string {
	var l []string
	for k, frame := range m[way] {
		if k != i {
			l = append(l, frame)
		}
	}
	return l
}

// answer: what the call must answer; the model is then as the net must be.
func (m *model) answer(c call) (string, api.Errno) {
	if c.way != 0 && c.way != 1 {
		return "", api.ErrRange
	}
	full := len(m[c.way]) == 64
	if c.act == send {
		if full {
			return "", api.ErrFull
		}
		m[c.way] = append(m[c.way], c.frame)
		return "", api.OK
	}
	if c.i < 0 || c.i >= len(m[c.way]) {
		return "", api.ErrNone
	}
	frame := m[c.way][c.i]
	switch c.act {
	case at:
		return frame, api.OK
	case deliver:
		m[c.way] = m.without(c.way, c.i)
		return frame, api.OK
	case drop:
		m[c.way] = m.without(c.way, c.i)
	case double:
		if full {
			return "", api.ErrFull
		}
		m[c.way] = append(m[c.way], frame)
	case flip:
		turned, ok := turn(frame, c.bit)
		if !ok {
			return "", api.ErrRange
		}
		m[c.way][c.i] = turned
	}
	return "", api.OK
}

// turn counts a frame's bits one by one; false if there is none with this number.
func turn(frame string, bit int) (string, bool) {
	b, number := []byte(frame), 0
	for k := range b {
		for value := 1; value < 256; value *= 2 {
			if number == bit {
				if int(b[k])/value%2 == 1 {
					b[k] -= byte(value)
				} else {
					b[k] += byte(value)
				}
				return string(b), true
			}
			number++
		}
	}
	return "", false
}

// roomy: the bytes, and behind them spare room that holds something.
func roomy(frame string) []byte {
	return append([]byte(frame), "spare"...)[:len(frame)]
}

// spoil writes up to the end of the spare room.
func spoil(b []byte) {
	for i := range b[:cap(b)] {
		b[:cap(b)][i] ^= 255
	}
}

// checkCode: is err of this number, for each way to ask?
func checkCode(t *testing.T, what any, err error, want api.Errno) {
	t.Helper()
	if want == api.OK {
		if err != nil {
			t.Errorf("%v: error %v, want none", what, err)
		}
		return
	}
	var code api.Errno
	if fault.Code(err) != want || !fault.Is(err, want) || !errors.Is(err, want) || !errors.As(err, &code) || code != want {
		t.Errorf("%v: error %v, want %v", what, err, want)
	}
}

// made makes the call; what is handed in must stay.
func made(t *testing.T, n *net.Net, c call) ([]byte, error) {
	t.Helper()
	switch c.act {
	case send:
		given := roomy(c.frame)
		err := n.Send(c.way, given)
		if string(given[:len(given)+5]) != c.frame+"spare" {
			t.Fatalf("%#v: the frame or its spare room is changed: %v", c, given[:len(given)+5])
		}
		spoil(given)
		return nil, err
	case at:
		return n.At(c.way, c.i)
	case deliver:
		return n.Deliver(c.way, c.i)
	case drop:
		return nil, n.Drop(c.way, c.i)
	case double:
		return nil, n.Copy(c.way, c.i)
	default:
		return nil, n.Flip(c.way, c.i, c.bit)
	}
}

// checkState: are just the model's frames under way? Each is asked for twice: the first answer is spoilt.
func checkState(t *testing.T, n *net.Net, m *model) {
	t.Helper()
	for way, frames := range m {
		if got := n.Len(way); got != len(frames) {
			t.Fatalf("Len(%d): %d, want %d", way, got, len(frames))
		}
		for i, frame := range frames {
			first, _ := n.At(way, i)
			if string(first) != frame {
				t.Fatalf("At(%d, %d): %v, want %v", way, i, first, []byte(frame))
			}
			spoil(first)
			if b, err := n.At(way, i); err != nil || string(b) != frame {
				t.Fatalf("At(%d, %d): %v, %v, want %v", way, i, b, err, []byte(frame))
			}
		}
		if b, err := n.At(way, len(frames)); fault.Code(err) != api.ErrNone || len(b) != 0 {
			t.Fatalf("At(%d, %d): %v, %v, want ErrNone", way, len(frames), b, err)
		}
	}
}

// checkCall makes the call of both, holds the answers against each other, and spoils the net's.
func checkCall(t *testing.T, n *net.Net, m *model, c call) {
	t.Helper()
	want, code := m.answer(c)
	got, err := made(t, n, c)
	if fault.Code(err) != code || (err == nil) != (code == api.OK) {
		t.Fatalf("%#v: error %v, want %v", c, err, code)
	}
	if string(got) != want {
		t.Fatalf("%#v: %v, want %v", c, got, []byte(want))
	}
	spoil(got)
}

// filled: a net and its model, with these many frames on each way, each another one.
func filled(t *testing.T, counts [2]int) (*net.Net, *model) {
	t.Helper()
	n, m := net.New(), &model{}
	for way, count := range counts {
		for i := range count {
			checkCall(t, n, m, call{act: send, way: way, frame: string([]byte{byte(way), byte(i), 170}[:1+i%3])})
		}
	}
	checkState(t, n, m)
	return n, m
}

func TestExamples(t *testing.T) {
	n := net.New()
	checkCode(t, "Send", n.Send(0, []byte{1, 2}), api.OK)
	checkCode(t, "Send", n.Send(0, []byte{3}), api.OK)
	checkCode(t, "Flip", n.Flip(0, 0, 8), api.OK)
	if b, err := n.At(0, 0); err != nil || !bytes.Equal(b, []byte{1, 3}) {
		t.Errorf("At(0, 0): %v, %v", b, err)
	}
	checkCode(t, "Copy", n.Copy(0, 1), api.OK)
	if n.Len(0) != 3 {
		t.Errorf("Len(0): %d", n.Len(0))
	}
	if b, err := n.Deliver(0, 1); err != nil || !bytes.Equal(b, []byte{3}) {
		t.Errorf("Deliver(0, 1): %v, %v", b, err)
	}
	if n.Len(0) != 2 || n.Len(1) != 0 {
		t.Errorf("Len: %d, %d", n.Len(0), n.Len(1))
	}
	_, err := n.Deliver(1, 0)
	checkCode(t, "Deliver(1, 0)", err, api.ErrNone)
	checkCode(t, "Send(2, 1)", n.Send(2, []byte{1}), api.ErrRange)
}

func TestNothingIsUnderWay(t *testing.T) {
	n, m := net.New(), &model{}
	checkState(t, n, m)
	for way := range 2 {
		for act := at; act < acts; act++ {
			for _, i := range append(outside(1), 0) {
				checkCall(t, n, m, call{act: act, way: way, i: i})
			}
		}
	}
	checkState(t, n, m)
}

// everyList makes all lists of calls of this length.
func everyList(t *testing.T, calls []call, length int) {
	t.Helper()
	lists := 1
	for range length {
		lists *= len(calls)
	}
	for number := range lists {
		n, m := net.New(), &model{}
		for range length {
			checkCall(t, n, m, calls[number%len(calls)])
			number /= len(calls)
		}
		checkState(t, n, m)
	}
}

func TestEveryShortList(t *testing.T) {
	everyList(t, []call{
		{act: send, frame: "\x01\x02"}, {act: send}, {act: send, way: 1, frame: "\x03"}, {act: send, way: 2, frame: "\x04"},
		{act: at}, {act: at, i: 1}, {act: at, way: 1},
		{act: deliver}, {act: deliver, i: 1}, {act: deliver, way: 1}, {act: deliver, way: -1},
		{act: drop}, {act: drop, i: 1}, {act: drop, way: 1},
		{act: double}, {act: double, i: 1}, {act: double, way: 1},
		{act: flip}, {act: flip, bit: 15}, {act: flip, bit: 16}, {act: flip, i: 1, bit: 8}, {act: flip, way: 1, bit: 7},
	}, 4)
	everyList(t, []call{
		{act: send, frame: "\x01\x02"}, {act: send, frame: "\x03"}, {act: deliver}, {act: drop, i: 1}, {act: double}, {act: flip, i: 1, bit: 3}, {act: flip, bit: 3},
	}, 6)
}

// anyCall: mostly of frames and bits that there are, now and then of others.
func anyCall(s *noise, m *model, sends int) call {
	c := call{act: act(s.below(int(acts))), way: s.below(2), frame: string(s.bytes(s.below(6)))}
	if s.below(10) < sends {
		c.act = []act{send, double}[s.below(2)]
	}
	if s.below(40) == 0 {
		c.way = noWays()[s.below(len(noWays()))]
		return c
	}
	frames := m[c.way]
	c.i = s.below(len(frames) + 1)
	if s.below(20) == 0 {
		c.i = outside(len(frames))[s.below(16)]
	}
	size := 0
	if c.i >= 0 && c.i < len(frames) {
		size = len(frames[c.i])
	}
	c.bit = s.below(8*size + 1)
	if s.below(20) == 0 {
		c.bit = outside(8 * size)[s.below(16)]
	}
	return c
}

func TestLongLists(t *testing.T) {
	s, full := noise(1), 0
	for sends := range 9 {
		for range 5 {
			n, m := net.New(), &model{}
			for range 400 {
				checkCall(t, n, m, anyCall(&s, m, sends))
				checkState(t, n, m)
				if n.Len(0) == api.MaxFlight || n.Len(1) == api.MaxFlight {
					full++
				}
			}
		}
	}
	if full == 0 {
		t.Error("no way was ever full")
	}
}

func TestNoSuchWay(t *testing.T) {
	n, m := filled(t, [2]int{3, 64})
	for _, way := range noWays() {
		if got := n.Len(way); got != 0 {
			t.Errorf("Len(%d): %d", way, got)
		}
		checkCode(t, "Send", n.Send(way, []byte{1}), api.ErrRange)
		checkCode(t, "Send of nil", n.Send(way, nil), api.ErrRange)
		// Whatever the frame and the bit, the way is looked at first.
		for _, i := range append(outside(64), 0, 1, 63) {
			for act := at; act < acts; act++ {
				for _, bit := range []int{-1, 0, 7, 99, math.MaxInt} {
					b, err := made(t, n, call{act: act, way: way, i: i, bit: bit})
					checkCode(t, act, err, api.ErrRange)
					if len(b) != 0 {
						t.Errorf("%d of way %d: %v beside an error", act, way, b)
					}
				}
			}
		}
		checkState(t, n, m)
	}
}

func TestNoSuchFrame(t *testing.T) {
	for _, counts := range [][2]int{{1, 0}, {2, 5}, {63, 64}, {64, 1}} {
		n, m := filled(t, counts)
		for way, count := range counts {
			for _, i := range outside(max(count, 1)) {
				if i >= 0 && i < count {
					t.Fatalf("there is a frame %d", i)
				}
				for act := at; act < acts; act++ {
					for _, bit := range []int{-1, 0, 7, 99, math.MaxInt, math.MinInt} {
						b, err := made(t, n, call{act: act, way: way, i: i, bit: bit})
						checkCode(t, act, err, api.ErrNone)
						if len(b) != 0 {
							t.Errorf("%d of frame %d: %v beside an error", act, i, b)
						}
					}
				}
			}
			checkState(t, n, m)
		}
	}
}

func TestFull(t *testing.T) {
	for way := range 2 {
		n := net.New()
		for i := range 64 {
			if n.Len(way) != i || n.Len(1-way) != 0 {
				t.Fatalf("Len: %d and %d, want %d and 0", n.Len(way), n.Len(1-way), i)
			}
			checkCode(t, i, n.Send(way, []byte{byte(i)}), api.OK)
		}
		for range 3 {
			checkCode(t, "Send", n.Send(way, []byte{99}), api.ErrFull)
			checkCode(t, "Send of nil", n.Send(way, nil), api.ErrFull)
			checkCode(t, "Copy", n.Copy(way, 0), api.ErrFull)
			checkCode(t, "Copy", n.Copy(way, 63), api.ErrFull)
			// That there is no such frame is told ahead of that there is no room.
			checkCode(t, "Copy", n.Copy(way, 64), api.ErrNone)
			checkCode(t, "Copy", n.Copy(way, -1), api.ErrNone)
		}
		for i := range 64 {
			if b, err := n.At(way, i); err != nil || !bytes.Equal(b, []byte{byte(i)}) {
				t.Errorf("At(%d, %d): %v, %v", way, i, b, err)
			}
		}
		// The other way has room of its own.
		checkCode(t, "Send", n.Send(1-way, []byte{7}), api.OK)
		checkCode(t, "Copy", n.Copy(1-way, 0), api.OK)
		checkCode(t, "Flip", n.Flip(way, 63, 7), api.OK)
	}
}

// A way that was full has room again for as many as left it, however often.
func TestRoomAgain(t *testing.T) {
	s := noise(2)
	n, m := filled(t, [2]int{64, 64})
	for range 200 {
		way, left := s.below(2), 1+s.below(5)
		for range left {
			checkCall(t, n, m, call{act: []act{deliver, drop}[s.below(2)], way: way, i: s.below(len(m[way]))})
		}
		for range left + 1 {
			checkCall(t, n, m, call{act: []act{send, double}[s.below(2)], way: way, i: s.below(len(m[way])), frame: string(s.bytes(3))})
		}
		if n.Len(0) != api.MaxFlight || n.Len(1) != api.MaxFlight {
			t.Fatalf("Len: %d, %d", n.Len(0), n.Len(1))
		}
		checkState(t, n, m)
	}
}

// Frames go out from every place, in every order of four; the others stay in theirs.
func TestOrder(t *testing.T) {
	for order := range 4 * 3 * 2 {
		for _, act := range []act{deliver, drop} {
			n, m := filled(t, [2]int{4, 4})
			for count, number := 4, order; count > 0; count-- {
				checkCall(t, n, m, call{act: act, i: number % count})
				checkState(t, n, m)
				number /= count
			}
		}
	}
	for count := 1; count <= 64; count++ {
		for i := range count {
			n, m := filled(t, [2]int{2, count})
			checkCall(t, n, m, call{act: []act{deliver, drop}[i%2], way: 1, i: i})
			checkState(t, n, m)
		}
	}
}

func TestEachBit(t *testing.T) {
	for size := range 12 {
		n, m := net.New(), &model{}
		frame := string(noise(size).some(size))
		for range 3 {
			checkCall(t, n, m, call{act: send, way: 1, frame: frame})
		}
		for bit := range 8 * size {
			checkCall(t, n, m, call{act: flip, way: 1, i: 1, bit: bit})
			checkState(t, n, m)
			want := []byte(frame)
			want[bit/8] ^= []byte{1, 2, 4, 8, 16, 32, 64, 128}[bit%8]
			if b, err := n.At(1, 1); err != nil || !bytes.Equal(b, want) {
				t.Errorf("Flip of bit %d: %v, %v, want %v", bit, b, err, want)
			}
			checkCall(t, n, m, call{act: flip, way: 1, i: 1, bit: bit})
			if b, err := n.At(1, 1); err != nil || string(b) != frame {
				t.Errorf("bit %d turned twice: %v, %v, want %v", bit, b, err, []byte(frame))
			}
		}
		for _, bit := range outside(8 * size) {
			checkCode(t, bit, n.Flip(1, 1, bit), api.ErrRange)
			checkState(t, n, m)
		}
	}
}

// A frame's doubles are frames of their own.
func TestCopiesKeepApart(t *testing.T) {
	n, m := net.New(), &model{}
	checkCall(t, n, m, call{act: send, frame: "\x00\x00"})
	for i := range 15 {
		checkCall(t, n, m, call{act: double, i: i / 2})
	}
	for i := range 16 {
		checkCall(t, n, m, call{act: flip, i: i, bit: i})
		checkState(t, n, m)
	}
	for i := range 16 {
		var want [2]byte
		want[i/8] = 1 << (i % 8)
		if b, err := n.Deliver(0, 0); err != nil || !bytes.Equal(b, want[:]) {
			t.Errorf("frame %d: %v, %v, want %v", i, b, err, want)
		}
	}
}

// An empty frame is one, though it has no bit.
func TestEmptyFrames(t *testing.T) {
	for _, frame := range [][]byte{nil, {}, make([]byte, 0, 9)} {
		n := net.New()
		checkCode(t, "Send", n.Send(1, frame), api.OK)
		checkCode(t, "Copy", n.Copy(1, 0), api.OK)
		for _, bit := range []int{0, 1, 7, 8, -1} {
			checkCode(t, bit, n.Flip(1, 1, bit), api.ErrRange)
		}
		if n.Len(1) != 2 {
			t.Errorf("Len: %d", n.Len(1))
		}
		if b, err := n.At(1, 1); err != nil || len(b) != 0 {
			t.Errorf("At: %v, %v", b, err)
		}
		if b, err := n.Deliver(1, 0); err != nil || len(b) != 0 {
			t.Errorf("Deliver: %v, %v", b, err)
		}
		checkCode(t, "Drop", n.Drop(1, 0), api.OK)
		checkCode(t, "Drop", n.Drop(1, 0), api.ErrNone)
	}
}

// The net sets no bound to a frame's length: MaxFrame is a bound of payloads.
func TestLongFrames(t *testing.T) {
	for _, size := range []int{api.MaxFrame - 1, api.MaxFrame, api.MaxFrame + 1, api.MaxFrame + 9, 1 << 22} {
		frame := noise(size).some(size)
		n := net.New()
		checkCode(t, size, n.Send(0, frame), api.OK)
		checkCode(t, size, n.Copy(0, 0), api.OK)
		checkCode(t, size, n.Flip(0, 1, 8*size-1), api.OK)
		checkCode(t, size, n.Flip(0, 1, 8*size), api.ErrRange)
		if b, err := n.Deliver(0, 0); err != nil || !bytes.Equal(b, frame) {
			t.Errorf("Deliver of %d bytes: %d, %v", size, len(b), err)
		}
		frame[size-1] ^= 128
		if b, err := n.Deliver(0, 0); err != nil || !bytes.Equal(b, frame) {
			t.Errorf("Deliver of %d bytes with the last bit turned: %d, %v", size, len(b), err)
		}
	}
}

func TestNetsKeepApart(t *testing.T) {
	s := noise(3)
	one, two := net.New(), net.New()
	oneModel, twoModel := &model{}, &model{}
	for range 300 {
		if s.below(2) == 0 {
			checkCall(t, one, oneModel, anyCall(&s, oneModel, 3))
		} else {
			checkCall(t, two, twoModel, anyCall(&s, twoModel, 3))
		}
		checkState(t, one, oneModel)
		checkState(t, two, twoModel)
	}
	checkState(t, net.New(), &model{})
}

// The same calls of two nets are answered alike, errors too.
func TestAnswersHangOnNothingElse(t *testing.T) {
	s := noise(4)
	one, two, m := net.New(), net.New(), &model{}
	for range 3000 {
		c := anyCall(&s, m, 3)
		m.answer(c)
		b, err := made(t, one, c)
		again, errAgain := made(t, two, c)
		if !bytes.Equal(b, again) || fault.Text(err) != fault.Text(errAgain) {
			t.Fatalf("%#v: %v, %v, then %v, %v", c, b, err, again, errAgain)
		}
	}
}

func TestWhatIsHandedInStays(t *testing.T) {
	n := net.New()
	room := []byte("0123456789")
	for size := range room {
		checkCode(t, size, n.Send(0, room[:size]), api.OK)
		checkCode(t, "no way", n.Send(2, room[:size]), api.ErrRange)
	}
	for i := range 10 {
		n.Flip(0, i, 8*i-1)
		n.Flip(0, i, 0)
		n.Copy(0, i)
		b, _ := n.At(0, i)
		spoil(b)
	}
	for i := range 20 {
		b, _ := n.Deliver(0, 19-i)
		spoil(b)
	}
	if string(room) != "0123456789" {
		t.Errorf("what was handed in is changed: %s", room)
	}
}

func TestWhatIsHandedInIsNotKept(t *testing.T) {
	n, m := net.New(), &model{}
	room := make([]byte, 20)
	for i := range 64 {
		frame := room[i%7 : i%7+i%5]
		for k := range room {
			room[k] = byte(10*i + k)
		}
		m[1] = append(m[1], string(frame))
		checkCode(t, i, n.Send(1, frame), api.OK)
		spoil(frame)
		checkState(t, n, m)
	}
}

// Every answer is held on to while the net goes on; none changes, and then no two of them share memory.
func TestAnswersAreNewMemory(t *testing.T) {
	s := noise(5)
	n, m := net.New(), &model{}
	var answers [][]byte
	var wants []string
	for range 4000 {
		c := anyCall(&s, m, 3)
		if c.act == drop {
			c.act = deliver
		}
		want, _ := m.answer(c)
		if b, err := made(t, n, c); err == nil && len(want) > 0 {
			answers, wants = append(answers, b), append(wants, want)
		}
	}
	if len(answers) < 500 {
		t.Fatalf("only %d answers", len(answers))
	}
	for i, b := range answers {
		if string(b) != wants[i] {
			t.Fatalf("the answer %d has become %v, was %v", i, b, []byte(wants[i]))
		}
	}
	checkState(t, n, m)
	for i, b := range answers {
		if string(b) != wants[i] {
			t.Fatalf("the answer %d shares memory: %v, was %v", i, b, []byte(wants[i]))
		}
		spoil(b)
	}
	checkState(t, n, m)
}

// The two answers of At of one frame, the frame itself and what Deliver then answers.
func TestSpoiltAnswers(t *testing.T) {
	for size := range 20 {
		n := net.New()
		frame := noise(size).some(size)
		n.Send(0, frame)
		n.Copy(0, 0)
		one, _ := n.At(0, 0)
		two, _ := n.At(0, 0)
		spoil(one)
		if !bytes.Equal(two, frame) {
			t.Errorf("two answers of At share memory: %v, want %v", two, frame)
		}
		three, _ := n.Deliver(0, 0)
		if !bytes.Equal(three, frame) {
			t.Errorf("At handed out what is kept: %v, want %v", three, frame)
		}
		spoil(three)
		if four, _ := n.Deliver(0, 0); !bytes.Equal(four, frame) || !bytes.Equal(two, frame) {
			t.Errorf("Deliver's answer shares memory: %v, %v, want %v", four, two, frame)
		}
	}
}

func FuzzCalls(f *testing.F) {
	f.Add([]byte{0, 0, 0, 0, 4, 0, 0, 0, 5, 0, 1, 9})
	f.Add(slices.Repeat([]byte{0, 1, 0, 0}, 66))
	f.Fuzz(func(t *testing.T, b []byte) {
		n, m := net.New(), &model{}
		for ; len(b) >= 4; b = b[4:] {
			checkCall(t, n, m, call{
				act: act(b[0]) % acts, way: int(int8(b[1])), i: int(int8(b[2])), bit: int(int8(b[3])),
				frame: string(b[2 : 2+b[3]%3]),
			})
		}
		checkState(t, n, m)
	})
}
