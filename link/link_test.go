package link_test

import (
	"bytes"
	"encoding/binary"
	"errors"
	"hash/crc32"
	"math"
	"runtime"
	"slices"
	"testing"

	"twain/api"
	"twain/fault"
	"twain/link"
	"twain/net"
)

// noise tells the same words in each run.
type noise uint64

func (s *noise) word() uint64 {
	*s += 0x9e3779b97f4a7c15
	x := uint64(*s)
	x = (x ^ x>>30) * 0xbf58476d1ce4e5b9
	x = (x ^ x>>27) * 0x94d049bb133111eb
	return x ^ x>>31
}

// below: a number from 0 to n - 1.
func (s *noise) below(n int) int { return int(s.word() % uint64(n)) }

func (s *noise) bytes(n int) []byte {
	b := make([]byte, n)
	for i := range b {
		b[i] = byte(s.word())
	}
	return b
}

// closed: the bytes, and behind them their sum by the library.
func closed(b []byte) string {
	return string(binary.LittleEndian.AppendUint32(slices.Clone(b), crc32.ChecksumIEEE(b)))
}

// sealed: a frame's bytes as the chapter has them.
func sealed(kind byte, number uint32, payload string) string {
	b := binary.LittleEndian.AppendUint32([]byte{kind}, number)
	return closed(append(b, payload...))
}

func dataFrame(number uint32, payload string) string { return sealed(0, number, payload) }

func ackFrame(number uint32) string { return sealed(1, number, "") }

// opened: the frame whose bytes these are, found by sealing it again.
func opened(frame string) (kind byte, number uint32, payload string, ok bool) {
	if len(frame) < 9 {
		return 0, 0, "", false
	}
	kind, number, payload = frame[0], binary.LittleEndian.Uint32([]byte(frame[1:5])), frame[5:len(frame)-4]
	if sealed(kind, number, payload) != frame {
		return 0, 0, "", false
	}
	if kind == 0 || kind == 1 && payload == "" {
		return kind, number, payload, true
	}
	return 0, 0, "", false
}

// short: a beginning of the bytes, for telling.
func short[T []byte | string](b T) []byte { return []byte(b[:min(len(b), 40)]) }

// roomy: the bytes, and behind them spare room that holds something.
func roomy(b string) []byte {
	return append([]byte(b), "spare"...)[:len(b)]
}

// stayed: are the bytes that roomy made, and their spare room, as they were?
func stayed(given []byte, b string) bool {
	return string(given[:len(given)+5]) == b+"spare"
}

// spoil writes up to the end of the spare room.
func spoil(b []byte) {
	for i := range b[:cap(b)] {
		b[:cap(b)][i] ^= 255
	}
}

// checkCode: is err of this number, for each way to ask?
func checkCode(t *testing.T, what any, err error, want api.Errno) {
	t.Helper()
	if want == api.OK {
		if err != nil {
			t.Errorf("%v: error %v, want none", what, err)
		}
		return
	}
	var code api.Errno
	if fault.Code(err) != want || !fault.Is(err, want) || !errors.Is(err, want) || !errors.As(err, &code) || code != want {
		t.Errorf("%v: error %v, want %v", what, err, want)
	}
}

// checkFrames: are these just the frames wanted?
func checkFrames(t *testing.T, what any, got [][]byte, want ...string) {
	t.Helper()
	if !slices.Equal(texts(got), want) {
		t.Fatalf("%v: %d frames, want %d\n%v\n%v", what, len(got), len(want), shorts(texts(got)), shorts(want))
	}
}

// shorts: of frames, as many as one likes to read.
func shorts(frames []string) [][]byte {
	var l [][]byte
	for _, frame := range frames[:min(len(frames), 8)] {
		l = append(l, short(frame))
	}
	return l
}

func texts(list [][]byte) []string {
	var l []string
	for _, b := range list {
		l = append(l, string(b))
	}
	return l
}

// hears hands a frame to an end, which must take it, or mustn't.
func hears(t *testing.T, e *link.End, frame string, want bool) {
	t.Helper()
	if got := e.Hear([]byte(frame)); got != want {
		t.Fatalf("Hear(%v): %v", short(frame), got)
	}
}

// takes: the next payload must be this one.
func takes(t *testing.T, e *link.End, want string) {
	t.Helper()
	if b, ok := e.Take(); !ok || string(b) != want {
		t.Fatalf("Take: %v, %v, want %v", short(b), ok, short(want))
	}
}

func takesNone(t *testing.T, e *link.End) {
	t.Helper()
	if b, ok := e.Take(); ok || len(b) != 0 {
		t.Fatalf("Take: %v, %v, want none", short(b), ok)
	}
}

func sends(t *testing.T, e *link.End, payload string) {
	t.Helper()
	if err := e.Send([]byte(payload)); err != nil {
		t.Fatalf("Send of %d bytes: %v", len(payload), err)
	}
}

func checkWaiting(t *testing.T, e *link.End, want int) {
	t.Helper()
	if got := e.Waiting(); got != want {
		t.Fatalf("Waiting: %d, want %d", got, want)
	}
}

// quiet: nothing is sent in these many steps.
func quiet(t *testing.T, e *link.End, steps int) {
	t.Helper()
	for i := range steps {
		checkFrames(t, i, e.Step())
	}
}

func TestExamples(t *testing.T) {
	a, b := link.New(), link.New()
	sends(t, a, "\x05")
	first := a.Step()
	if len(first) != 1 || !bytes.Equal(first[0][:6], []byte{0, 0, 0, 0, 0, 5}) || len(first[0]) != 10 {
		t.Fatalf("Step: %v", first)
	}
	quiet(t, a, 3)
	again := a.Step()
	if len(again) != 1 || !bytes.Equal(again[0], first[0]) {
		t.Fatalf("Step: %v, want %v", again, first)
	}
	if !b.Hear(first[0]) || !b.Hear(again[0]) {
		t.Fatal("Hear: no frame")
	}
	takes(t, b, "\x05")
	takesNone(t, b)
	acks := b.Step()
	checkFrames(t, "Step", acks, ackFrame(0), ackFrame(0))
	checkWaiting(t, a, 1)
	if !a.Hear(acks[0]) {
		t.Fatal("Hear: no frame")
	}
	checkWaiting(t, a, 0)
}

func TestNewEnd(t *testing.T) {
	e := link.New()
	checkWaiting(t, e, 0)
	checkCode(t, "Err", e.Err(), api.OK)
	takesNone(t, e)
	quiet(t, e, 99)
	// Nothing is under way that could be acknowledged.
	hears(t, e, ackFrame(0), true)
	checkWaiting(t, e, 0)
	sends(t, e, "a")
	checkFrames(t, "Step", e.Step(), dataFrame(0, "a"))
}

// The sum that all lists of CRC-32s name.
func TestKnownSum(t *testing.T) {
	got := link.Seal('1', 0x35343332, []byte("6789"))
	if want := "123456789\x26\x39\xf4\xcb"; string(got) != want {
		t.Errorf("Seal: %x, want %x", got, want)
	}
}

func someNumbers() []uint32 {
	l := []uint32{0, 1, 255, 256, 65535, 65536, 1<<24 - 1, 1 << 24, 0x04030201, 1<<31 - 1, 1 << 31, math.MaxUint32}
	for i := range 32 {
		l = append(l, 1<<i)
	}
	return l
}

func somePayloads() []string {
	s := noise(1)
	l := []string{"", "\x00", "\xff", "\x00\x00\x00\x00", "\xff\xff\xff\xff", "123456789"}
	for i := range 256 {
		l = append(l, string([]byte{byte(i)}), string(s.bytes(i)))
	}
	return l
}

// checkSeal holds Seal and then Open against the chapter; what is handed in stays, and the answers are new memory.
func checkSeal(t *testing.T, kind byte, number uint32, payload string) {
	t.Helper()
	given, want := roomy(payload), sealed(kind, number, payload)
	got := link.Seal(kind, number, given)
	if string(got) != want || !stayed(given, payload) {
		t.Fatalf("Seal(%d, %d, %v): %v, want %v", kind, number, short(payload), short(got), short(want))
	}
	spoil(got)
	if !stayed(given, payload) {
		t.Fatalf("Seal(%d, %d, %v): the answer shares the payload's memory", kind, number, short(payload))
	}
	checkOpen(t, want)
}

func checkOpen(t *testing.T, frame string) {
	t.Helper()
	wantKind, wantNumber, wantPayload, want := opened(frame)
	given := roomy(frame)
	kind, number, payload, ok := link.Open(given)
	if kind != wantKind || number != wantNumber || string(payload) != wantPayload || ok != want || !stayed(given, frame) {
		t.Fatalf("Open(%v): %d, %d, %v, %v, want %d, %d, %v, %v", short(frame), kind, number, short(payload), ok, wantKind, wantNumber, short(wantPayload), want)
	}
	spoil(payload)
	if !stayed(given, frame) {
		t.Fatalf("Open(%v): the answer shares the frame's memory", short(frame))
	}
}

func TestSealAndOpen(t *testing.T) {
	for _, payload := range somePayloads() {
		for _, number := range []uint32{0, 7, math.MaxUint32} {
			checkSeal(t, 0, number, payload)
			checkSeal(t, 1, number, payload)
		}
	}
	for _, number := range someNumbers() {
		for kind := range 256 {
			checkSeal(t, byte(kind), number, "")
			checkSeal(t, byte(kind), number, "abc")
		}
	}
	s := noise(2)
	for range 2000 {
		checkSeal(t, byte(s.word())%2, uint32(s.word()), string(s.bytes(s.below(100))))
	}
	if got := link.Seal(1, 3, nil); string(got) != ackFrame(3) {
		t.Errorf("Seal(1, 3, nil): %v", got)
	}
}

func TestLongFrames(t *testing.T) {
	s := noise(3)
	for _, size := range []int{1<<16 - 1, 1 << 16, 1<<20 - 1, 1 << 20, 1<<20 + 1, 3 << 20} {
		checkSeal(t, 0, uint32(size), string(s.bytes(size)))
		checkSeal(t, 1, uint32(size), string(s.bytes(size)))
	}
}

// Kinds that are none, whatever comes behind, and acknowledgements with a payload: the sum is right each time.
func TestOpenOfNoFrame(t *testing.T) {
	refused := func(frame string) {
		t.Helper()
		kind, number, payload, ok := link.Open([]byte(frame))
		if kind != 0 || number != 0 || len(payload) != 0 || ok {
			t.Fatalf("Open(%v): %d, %d, %v, %v", []byte(frame), kind, number, payload, ok)
		}
	}
	for kind := 2; kind < 256; kind++ {
		for _, payload := range []string{"", "a", "\x00\x00\x00\x00\x00"} {
			refused(sealed(byte(kind), 7, payload))
		}
	}
	for _, payload := range somePayloads()[1:] {
		if payload != "" {
			refused(sealed(1, 7, payload))
		}
	}
	s := noise(4)
	for size := range 9 {
		for range 50 {
			refused(string(s.bytes(size)))
		}
		refused(string(make([]byte, size)))
		refused(ackFrame(1)[:size])
		refused(dataFrame(1, "abc")[:size])
		// Too few bytes, though the sum is that of those ahead.
		if size >= 4 {
			refused(closed(make([]byte, size-4)))
			refused(closed([]byte{1, 2, 3, 4}[:size-4]))
		}
	}
	refused("")
	if _, _, _, ok := link.Open(nil); ok {
		t.Error("Open of nil")
	}
}

// A bit that is turned, up to 32 bits in a row that are spoilt, a byte more, a byte less: no frame any more.
func TestOpenOfTurnedFrames(t *testing.T) {
	s := noise(5)
	for _, frame := range []string{dataFrame(0, ""), dataFrame(1, "\x05"), dataFrame(0x80000000, "some payload"), ackFrame(0), ackFrame(0xffffffff)} {
		checkOpen(t, frame)
		for bit := range 8 * len(frame) {
			b := []byte(frame)
			b[bit/8] ^= 1 << (bit % 8)
			if _, _, _, ok := link.Open(b); ok {
				t.Fatalf("Open of %v with bit %d turned", []byte(frame), bit)
			}
			checkOpen(t, string(b))
		}
		for at := range len(frame) - 3 {
			b := []byte(frame)
			binary.LittleEndian.PutUint32(b[at:], binary.LittleEndian.Uint32(b[at:])^uint32(1+s.below(math.MaxUint32)))
			if _, _, _, ok := link.Open(b); ok {
				t.Fatalf("Open of %v, which was %v", b, []byte(frame))
			}
		}
		for cut := range len(frame) {
			checkOpen(t, frame[:cut])
			checkOpen(t, frame[cut:])
		}
		for c := range 256 {
			checkOpen(t, frame+string([]byte{byte(c)}))
			checkOpen(t, string([]byte{byte(c)})+frame)
		}
		checkOpen(t, frame+frame)
		// The sum with its highest byte first.
		b := []byte(frame)
		slices.Reverse(b[len(b)-4:])
		checkOpen(t, string(b))
	}
	for range 20000 {
		checkOpen(t, string(s.bytes(s.below(16))))
	}
}

// act is which method a call is of.
type act int

const (
	send act = iota
	step
	hear
	take
)

type call struct {
	act   act
	bytes string
	times int // how often, of steps
}

// model holds all that was ever sent, heard and taken as texts, and the times at which things happened, and answers by the words of the chapter.
type model struct {
	queue  []string
	done   int
	sendAt []int
	now    int
	came   []string
	taken  int
	owed   []uint32
	failed bool
}

func (m *model) waiting() int { return len(m.queue) - m.done }

func (m *model) send(payload string) api.Errno {
	switch {
	case m.failed:
		return api.ErrLink
	case len(payload) > 1048576:
		return api.ErrLong
	case m.waiting() == 64:
		return api.ErrFull
	}
	m.queue = append(m.queue, payload)
	return api.OK
}

func (m *model) step() []string {
	var out []string
	for _, number := range m.owed {
		out = append(out, ackFrame(number))
	}
	m.owed = nil
	m.now++
	times := len(m.sendAt)
	if m.waiting() == 0 || times > 0 && m.now-m.sendAt[times-1] != 4 {
		return out
	}
	if times == 8 {
		m.failed = true
		return out
	}
	m.sendAt = append(m.sendAt, m.now)
	return append(out, dataFrame(uint32(m.done), m.queue[m.done]))
}

func (m *model) hear(frame string) bool {
	kind, number, payload, ok := opened(frame)
	if !ok {
		return false
	}
	if kind == 1 {
		if m.waiting() > 0 && int(number) == m.done && len(m.sendAt) > 0 {
			m.done++
			m.sendAt = nil
		}
		return true
	}
	if int(number) > len(m.came) {
		return true
	}
	if int(number) == len(m.came) {
		m.came = append(m.came, payload)
	}
	m.owed = append(m.owed, number)
	return true
}

func (m *model) take() (string, bool) {
	if m.taken == len(m.came) {
		return "", false
	}
	m.taken++
	return m.came[m.taken-1], true
}

// pair is an end, its model, and answers of the end that must stay as they were.
type pair struct {
	e    *link.End
	m    model
	held [][]byte
	was  []string
}

func newPair() *pair { return &pair{e: link.New()} }

// keep looks at answers, of which every other one is spoilt: the rest, and what the end has, must stay.
func (p *pair) keep(answers ...[]byte) {
	for i, b := range answers {
		if (len(p.held)+i)%2 == 1 {
			spoil(b)
		}
		p.held = append(p.held, b)
		p.was = append(p.was, string(b))
	}
}

func (p *pair) checkHeld(t *testing.T) {
	t.Helper()
	for i, b := range p.held {
		if string(b) != p.was[i] {
			t.Fatalf("an answer is changed later: %v, was %v", b, []byte(p.was[i]))
		}
	}
}

func (p *pair) checkState(t *testing.T, c call) {
	t.Helper()
	if p.e.Waiting() != p.m.waiting() {
		t.Fatalf("%#v: Waiting %d, want %d", c, p.e.Waiting(), p.m.waiting())
	}
	if err := p.e.Err(); (err != nil) != p.m.failed || p.m.failed && fault.Code(err) != api.ErrLink {
		t.Fatalf("%#v: Err %v, want %v", c, err, p.m.failed)
	}
}

// call makes a call of both, and holds the answers against each other; what is handed in must stay, and is spoilt.
func (p *pair) call(t *testing.T, c call) {
	t.Helper()
	given := roomy(c.bytes)
	switch c.act {
	case send:
		want := p.m.send(c.bytes)
		if err := p.e.Send(given); fault.Code(err) != want || (err == nil) != (want == api.OK) {
			t.Fatalf("Send of %d bytes: %v, want %v", len(given), err, want)
		}
	case step:
		for range c.times {
			want, got := p.m.step(), p.e.Step()
			if !slices.Equal(texts(got), want) {
				t.Fatalf("Step: %v, want %q", got, want)
			}
			p.keep(got...)
			clear(got[:cap(got)])
		}
	case hear:
		want := p.m.hear(c.bytes)
		if got := p.e.Hear(given); got != want {
			t.Fatalf("Hear(%v): %v, want %v", given, got, want)
		}
	case take:
		want, wantOk := p.m.take()
		got, ok := p.e.Take()
		if string(got) != want || ok != wantOk {
			t.Fatalf("Take: %v, %v, want %q, %v", got, ok, want, wantOk)
		}
		p.keep(got)
	}
	if !stayed(given, c.bytes) {
		t.Fatalf("%#v: what is handed in is changed", c)
	}
	spoil(given)
	p.checkState(t, c)
}

// finish takes all that came, and looks at all that is still to be sent.
func (p *pair) finish(t *testing.T) {
	t.Helper()
	for p.m.taken < len(p.m.came) {
		p.call(t, call{act: take})
	}
	p.call(t, call{act: take})
	p.call(t, call{act: step, times: 5})
	p.checkHeld(t)
}

// everyList makes all lists of calls of this length.
func everyList(t *testing.T, calls []call, length int) {
	t.Helper()
	lists := 1
	for range length {
		lists *= len(calls)
	}
	for number := range lists {
		p := newPair()
		for range length {
			p.call(t, calls[number%len(calls)])
			number /= len(calls)
		}
		p.finish(t)
	}
}

func TestEveryShortList(t *testing.T) {
	one := call{act: step, times: 1}
	everyList(t, []call{
		{act: send, bytes: "a"}, {act: send}, one, {act: take},
		{act: hear, bytes: dataFrame(0, "x")}, {act: hear, bytes: dataFrame(1, "")}, {act: hear, bytes: dataFrame(2, "z")},
		{act: hear, bytes: ackFrame(0)}, {act: hear, bytes: ackFrame(1)}, {act: hear, bytes: "nonsense!"},
	}, 5)
	// One's own data only, over times up to the error and beyond.
	everyList(t, []call{
		{act: send, bytes: "a"}, one, {act: step, times: 3}, {act: step, times: 28}, {act: step, times: 33},
		{act: hear, bytes: ackFrame(0)}, {act: hear, bytes: ackFrame(1)},
	}, 5)
	// The other end's data only.
	everyList(t, []call{
		{act: take}, one, {act: hear, bytes: dataFrame(0, "x")}, {act: hear, bytes: dataFrame(1, "y")}, {act: hear, bytes: dataFrame(0, "other")},
	}, 7)
}

// anyFrame: mostly one that the end wants, has, or waits for, now and then another one, or none.
func anyFrame(s *noise, m *model) string {
	near := func(n int) uint32 { return uint32(n + max(0, s.below(12)-8)*(1-2*s.below(2))) }
	frame := ackFrame(near(m.done))
	switch s.below(12) {
	case 0:
		frame = dataFrame(uint32(s.word()), string(s.bytes(s.below(4))))
	case 1:
		frame = sealed(byte(s.below(4)), near(m.done), string(s.bytes(s.below(4))))
	case 2:
		b := []byte(frame)
		b[s.below(len(b))] ^= 1 << s.below(8)
		frame = string(b)
	case 3:
		frame = string(s.bytes(s.below(12)))
	case 4, 5, 6, 7, 8:
		frame = dataFrame(near(len(m.came)), string(s.bytes(s.below(6))))
	}
	return frame
}

// anyCall: sends and frames come as often as their weights have it.
func anyCall(s *noise, m *model, sending, hearing int) call {
	switch n := s.below(10); {
	case n < sending:
		return call{act: send, bytes: string(s.bytes(s.below(6)))}
	case n < sending+hearing:
		return call{act: hear, bytes: anyFrame(s, m)}
	case s.below(3) == 0:
		return call{act: take}
	case s.below(9) == 0:
		return call{act: step, times: 1 + s.below(12)}
	default:
		return call{act: step, times: 1}
	}
}

func TestLongLists(t *testing.T) {
	s, full, failed, done := noise(6), 0, 0, 0
	for sending := range 7 {
		for hearing := range 4 {
			for range 10 {
				p := newPair()
				for range 300 {
					p.call(t, anyCall(&s, &p.m, sending, hearing))
					if p.e.Waiting() == api.MaxQueue {
						full++
					}
				}
				p.finish(t)
				if p.m.failed {
					failed++
				}
				done += p.m.done
			}
		}
	}
	if full == 0 || failed == 0 || done == 0 {
		t.Errorf("full %d, failed %d, done %d: one of them was never seen", full, failed, done)
	}
}

// Ends share nothing: what becomes of one is nothing to the others.
func TestEndsApart(t *testing.T) {
	s := noise(7)
	var ends [8]*pair
	for i := range ends {
		ends[i] = newPair()
	}
	for range 4000 {
		p := ends[s.below(len(ends))]
		p.call(t, anyCall(&s, &p.m, 2, 4))
	}
	for _, p := range ends {
		p.finish(t)
	}
}

// sendTimes: in which of the steps data is sent, which must be this frame.
func sendTimes(t *testing.T, e *link.End, steps int, frame string) []int {
	t.Helper()
	var times []int
	for i := range steps {
		frames := e.Step()
		if len(frames) == 0 {
			continue
		}
		checkFrames(t, i, frames, frame)
		times = append(times, i)
	}
	return times
}

func TestTimes(t *testing.T) {
	e := link.New()
	sends(t, e, "some")
	sends(t, e, "more")
	if times := sendTimes(t, e, 32, dataFrame(0, "some")); !slices.Equal(times, []int{0, 4, 8, 12, 16, 20, 24, 28}) {
		t.Errorf("sent in the steps %v", times)
	}
	checkCode(t, "Err", e.Err(), api.OK)
	checkCode(t, "Send", e.Send([]byte("third")), api.OK)
	checkWaiting(t, e, 3)
	for range 100 {
		checkFrames(t, "Step", e.Step())
		checkCode(t, "Err", e.Err(), api.ErrLink)
		checkCode(t, "Send", e.Send([]byte("fourth")), api.ErrLink)
		checkWaiting(t, e, 3)
	}
}

// The time counts from the last sending, whatever else comes between.
func TestTimesGoOn(t *testing.T) {
	e := link.New()
	quiet(t, e, 7)
	sends(t, e, "a")
	checkFrames(t, "first", e.Step(), dataFrame(0, "a"))
	hears(t, e, dataFrame(0, "x"), true)
	checkFrames(t, "acknowledges", e.Step(), ackFrame(0))
	sends(t, e, "b")
	hears(t, e, ackFrame(1), true)
	hears(t, e, ackFrame(math.MaxUint32), true)
	checkFrames(t, "nothing", e.Step())
	hears(t, e, "no frame", false)
	checkFrames(t, "nothing", e.Step())
	hears(t, e, dataFrame(0, "x"), true)
	checkFrames(t, "again", e.Step(), ackFrame(0), dataFrame(0, "a"))
	quiet(t, e, 2)
	hears(t, e, ackFrame(0), true)
	// The next one is sent at once, and counts anew.
	checkFrames(t, "next", e.Step(), dataFrame(1, "b"))
	quiet(t, e, 3)
	checkFrames(t, "next again", e.Step(), dataFrame(1, "b"))
}

// Up to which sending, and how many steps behind it, an acknowledgement is in time.
func TestAcknowledgedInTime(t *testing.T) {
	for steps := 1; steps <= 40; steps++ {
		e := link.New()
		for _, payload := range []string{"a", "b", "c"} {
			sends(t, e, payload)
		}
		for range steps {
			e.Step()
		}
		hears(t, e, ackFrame(0), true)
		checkWaiting(t, e, 2)
		// Doubled it says nothing of the next one, which was never sent.
		hears(t, e, ackFrame(0), true)
		hears(t, e, ackFrame(1), true)
		checkWaiting(t, e, 2)
		if steps <= 32 {
			// All eight sendings are there again for the next one.
			checkCode(t, steps, e.Err(), api.OK)
			if times := sendTimes(t, e, 32, dataFrame(1, "b")); len(times) != api.MaxSends {
				t.Errorf("behind %d steps: sent in the steps %v", steps, times)
			}
			checkCode(t, steps, e.Err(), api.OK)
			e.Step()
		}
		checkCode(t, steps, e.Err(), api.ErrLink)
	}
}

// An error stays, but late acknowledgements are heard, and what waits behind goes its way: only of the payload that was sent too often nothing more is sent.
func TestLateAcknowledgement(t *testing.T) {
	e := link.New()
	sends(t, e, "a")
	sends(t, e, "b")
	for range 50 {
		e.Step()
	}
	first := e.Err()
	checkCode(t, "Err", first, api.ErrLink)
	checkWaiting(t, e, 2)
	hears(t, e, ackFrame(0), true)
	checkWaiting(t, e, 1)
	checkCode(t, "Err", e.Err(), api.ErrLink)
	checkCode(t, "Send", e.Send(nil), api.ErrLink)
	if times := sendTimes(t, e, 50, dataFrame(1, "b")); !slices.Equal(times, []int{0, 4, 8, 12, 16, 20, 24, 28}) {
		t.Errorf("sent in the steps %v", times)
	}
	if e.Err() != first {
		t.Errorf("Err: %v, was %v", e.Err(), first)
	}
	hears(t, e, ackFrame(1), true)
	checkWaiting(t, e, 0)
	quiet(t, e, 9)
	checkCode(t, "Send", e.Send(nil), api.ErrLink)
	checkWaiting(t, e, 0)
}

func TestEndWithErrorHears(t *testing.T) {
	e := link.New()
	sends(t, e, "a")
	for range 32 {
		e.Step()
	}
	// Both in the step of the error and behind it.
	for number := range uint32(5) {
		hears(t, e, dataFrame(number, "x"), true)
		hears(t, e, dataFrame(number+2, "y"), true)
		hears(t, e, "no frame", false)
		checkFrames(t, number, e.Step(), ackFrame(number))
		checkCode(t, number, e.Err(), api.ErrLink)
		takes(t, e, "x")
		takesNone(t, e)
	}
}

func TestOrderOfErrors(t *testing.T) {
	long := make([]byte, api.MaxFrame+1)
	e := link.New()
	checkCode(t, "too long", e.Send(long), api.ErrLong)
	checkWaiting(t, e, 0)
	for range api.MaxQueue {
		sends(t, e, "a")
	}
	checkCode(t, "too long, and full", e.Send(long), api.ErrLong)
	checkCode(t, "full", e.Send(long[1:]), api.ErrFull)
	checkCode(t, "full", e.Send(nil), api.ErrFull)
	for range 33 {
		e.Step()
	}
	checkCode(t, "error, too long, and full", e.Send(long), api.ErrLink)
	checkCode(t, "error, and full", e.Send(nil), api.ErrLink)
	checkWaiting(t, e, api.MaxQueue)
	hears(t, e, ackFrame(0), true)
	checkCode(t, "error, and too long", e.Send(long), api.ErrLink)
	checkCode(t, "error", e.Send(nil), api.ErrLink)
	checkWaiting(t, e, api.MaxQueue-1)
}

func TestLongPayloads(t *testing.T) {
	s := noise(8)
	for _, size := range []int{0, api.MaxFrame - 1, api.MaxFrame} {
		a, b := link.New(), link.New()
		payload := s.bytes(size)
		checkCode(t, size, a.Send(payload), api.OK)
		frames := a.Step()
		checkFrames(t, size, frames, dataFrame(0, string(payload)))
		hears(t, b, string(frames[0]), true)
		takes(t, b, string(payload))
	}
	for _, size := range []int{api.MaxFrame + 1, api.MaxFrame + 2, 2 * api.MaxFrame, 16 * api.MaxFrame} {
		e := link.New()
		checkCode(t, size, e.Send(make([]byte, size)), api.ErrLong)
		checkWaiting(t, e, 0)
		quiet(t, e, 9)
	}
	// What is heard has no bound.
	e := link.New()
	hears(t, e, dataFrame(0, string(make([]byte, api.MaxFrame+1))), true)
	takes(t, e, string(make([]byte, api.MaxFrame+1)))
}

func TestFull(t *testing.T) {
	e := link.New()
	for i := range api.MaxQueue {
		checkWaiting(t, e, i)
		sends(t, e, string([]byte{byte(i)}))
	}
	number := uint32(0)
	for range 500 {
		checkCode(t, number, e.Send([]byte("one more")), api.ErrFull)
		checkWaiting(t, e, api.MaxQueue)
		checkFrames(t, number, e.Step(), dataFrame(number, string([]byte{byte(number)})))
		// That it was sent makes no room; that it came does, for just one.
		checkCode(t, number, e.Send([]byte("one more")), api.ErrFull)
		hears(t, e, ackFrame(number), true)
		checkWaiting(t, e, api.MaxQueue-1)
		sends(t, e, string([]byte{byte(number + api.MaxQueue)}))
		number++
	}
}

// Acknowledgements are owed one by one, as frames come, not number by number.
func TestOwedInOrder(t *testing.T) {
	e := link.New()
	sends(t, e, "own")
	for _, number := range []uint32{0, 0, 2, 1, 0, 1, 3, 2, 3, 9, 0, math.MaxUint32, 3, 1, 4} {
		hears(t, e, dataFrame(number, "x"), true)
	}
	// The first 2 and the first 3 came too early, and so came to nothing.
	var want []string
	for _, number := range []uint32{0, 0, 1, 0, 1, 2, 3, 0, 3, 1, 4} {
		want = append(want, ackFrame(number))
	}
	checkFrames(t, "owed", e.Step(), append(want, dataFrame(0, "own"))...)
	quiet(t, e, 3)
}

// An acknowledgement is of no use but for the payload that is under way and was sent.
func TestOtherAcknowledgements(t *testing.T) {
	e := link.New()
	sends(t, e, "a")
	sends(t, e, "b")
	hears(t, e, ackFrame(0), true)
	checkWaiting(t, e, 2)
	checkFrames(t, "a", e.Step(), dataFrame(0, "a"))
	for _, number := range someNumbers() {
		if number != 0 {
			hears(t, e, ackFrame(number), true)
		}
	}
	checkWaiting(t, e, 2)
	hears(t, e, sealed(1, 0, "with a payload"), false)
	hears(t, e, sealed(2, 0, ""), false)
	checkWaiting(t, e, 2)
	hears(t, e, ackFrame(0), true)
	checkWaiting(t, e, 1)
	hears(t, e, ackFrame(1), true)
	checkWaiting(t, e, 1)
	checkFrames(t, "b", e.Step(), dataFrame(1, "b"))
	hears(t, e, ackFrame(0), true)
	checkWaiting(t, e, 1)
	hears(t, e, ackFrame(1), true)
	checkWaiting(t, e, 0)
	hears(t, e, ackFrame(2), true)
	sends(t, e, "c")
	checkWaiting(t, e, 1)
	checkFrames(t, "c", e.Step(), dataFrame(2, "c"))
}

// What comes is of the first frame with its number; a number counts in all its bytes.
func TestDataByNumber(t *testing.T) {
	e := link.New()
	for number := range uint32(700) {
		for _, ahead := range []uint32{1, 2, 255, 256, 65536, 1 << 24, 1 << 31} {
			hears(t, e, dataFrame(number+ahead, "ahead"), true)
		}
		hears(t, e, dataFrame(number, string(binary.LittleEndian.AppendUint32(nil, number))), true)
		hears(t, e, dataFrame(number, "other"), true)
		hears(t, e, dataFrame(number/2, "other"), true)
		checkFrames(t, number, e.Step(), ackFrame(number), ackFrame(number), ackFrame(number/2))
	}
	for number := range uint32(700) {
		takes(t, e, string(binary.LittleEndian.AppendUint32(nil, number)))
	}
	takesNone(t, e)
}

// channel is two ends and a net between them, with all that was sent and taken on each way.
type channel struct {
	ends        [2]*link.End
	n           *net.Net
	sent, taken [2][]string
}

func newChannel() *channel {
	return &channel{ends: [2]*link.End{link.New(), link.New()}, n: net.New()}
}

func (c *channel) send(side int, payload string) {
	if c.ends[side].Send([]byte(payload)) == nil {
		c.sent[side] = append(c.sent[side], payload)
	}
}

// step lets a side step; what finds no room is lost.
func (c *channel) step(side int) {
	for _, frame := range c.ends[side].Step() {
		_ = c.n.Send(side, frame)
	}
}

func (c *channel) deliver(t *testing.T, way, i int) {
	t.Helper()
	frame, err := c.n.Deliver(way, i)
	if err != nil {
		return
	}
	c.ends[1-way].Hear(frame)
	c.checkTaken(t, 1-way)
}

// checkTaken: is what a side has taken a beginning of what the other one sent?
func (c *channel) checkTaken(t *testing.T, side int) {
	t.Helper()
	for b, ok := c.ends[side].Take(); ok; b, ok = c.ends[side].Take() {
		at := len(c.taken[side])
		if at >= len(c.sent[1-side]) || c.sent[1-side][at] != string(b) {
			t.Fatalf("side %d takes %q behind %d payloads; sent were %q", side, b, at, c.sent[1-side])
		}
		c.taken[side] = append(c.taken[side], string(b))
	}
}

// turn turns a bit of a frame; a turned frame that is taken for one is lost.
func (c *channel) turn(way, i, bit int) {
	if c.n.Flip(way, i, bit) != nil {
		return
	}
	frame, _ := c.n.At(way, i)
	if _, _, _, ok := link.Open(frame); ok {
		_ = c.n.Drop(way, i)
	}
}

// checkDone: what a payload's acknowledgement says has come, and what waits is the rest.
func (c *channel) checkDone(t *testing.T) {
	t.Helper()
	for side, e := range c.ends {
		if came := len(c.sent[side]) - e.Waiting(); came > len(c.taken[1-side]) {
			t.Fatalf("side %d has %d payloads done, of which %d came", side, came, len(c.taken[1-side]))
		}
	}
}

// Every short script of a small net: whatever is lost, doubled and reordered, all is in order.
func TestEveryShortScript(t *testing.T) {
	const length = 7
	moves := []func(*channel){
		func(c *channel) { c.step(0); c.step(0); c.step(0); c.step(0) },
		func(c *channel) { c.step(1) },
		func(c *channel) { c.deliver(t, 0, 0) },
		func(c *channel) { c.deliver(t, 0, c.n.Len(0)-1) },
		func(c *channel) { _ = c.n.Copy(0, 0) },
		func(c *channel) { c.deliver(t, 1, 0) },
		func(c *channel) { c.deliver(t, 1, c.n.Len(1)-1) },
	}
	scripts := 1
	for range length {
		scripts *= len(moves)
	}
	most := 0
	for number := range scripts {
		c := newChannel()
		for _, payload := range []string{"a", "b", "c"} {
			c.send(0, payload)
		}
		for range length {
			moves[number%len(moves)](c)
			number /= len(moves)
		}
		c.checkDone(t)
		most = max(most, len(c.taken[1]))
	}
	if most < 2 {
		t.Errorf("at most %d payloads came", most)
	}
}

// weather is how often of 100 a frame is lost, doubled and turned.
type weather struct{ lost, doubled, turned int }

// blow does something to the net, with any of its frames.
func (c *channel) blow(t *testing.T, s *noise, w weather) {
	t.Helper()
	way := s.below(2)
	if c.n.Len(way) == 0 {
		return
	}
	i := s.below(c.n.Len(way))
	switch n := s.below(100); {
	case n < w.lost:
		_ = c.n.Drop(way, i)
	case n < w.lost+w.doubled:
		_ = c.n.Copy(way, i)
	case n < w.lost+w.doubled+w.turned:
		c.turn(way, i, s.below(200))
	default:
		c.deliver(t, way, i)
	}
}

func TestSureAndInOrder(t *testing.T) {
	s, failed, whole := noise(9), 0, 0
	for _, w := range []weather{{}, {lost: 20}, {doubled: 45}, {turned: 40}, {30, 20, 20}, {60, 10, 10}, {lost: 95}, {lost: 100}} {
		for range 12 {
			c := newChannel()
			for i := range 1500 {
				if side := s.below(2); i < 1000 && s.below(8) == 0 {
					c.send(side, string(s.bytes(s.below(5)))+string(binary.LittleEndian.AppendUint16(nil, uint16(i))))
				}
				if s.below(3) == 0 {
					c.step(s.below(2))
				}
				c.blow(t, &s, w)
				c.checkDone(t)
			}
			for side, e := range c.ends {
				if e.Err() != nil {
					failed++
				} else if len(c.sent[side]) > 0 && len(c.taken[1-side]) == len(c.sent[side]) {
					whole++
				}
			}
		}
	}
	if failed == 0 || whole == 0 {
		t.Errorf("failed %d, whole %d: one of them was never seen", failed, whole)
	}
}

// Where of each payload's frames at most three are lost, and of its acknowledgements at most three, all comes.
func TestFewLosses(t *testing.T) {
	s := noise(10)
	for range 50 {
		c := newChannel()
		for i := range 20 {
			c.send(0, string([]byte{byte(i)}))
			c.send(1, string([]byte{byte(i), byte(i)}))
		}
		lost := map[string]int{}
		for range 20 * 8 * api.Resend {
			for side := range c.ends {
				c.step(side)
			}
			for way := range 2 {
				for c.n.Len(way) > 0 {
					frame, _ := c.n.At(way, 0)
					key := string([]byte{byte(way)}) + string(frame)
					if lost[key] < 3 && s.below(4) > 0 {
						lost[key]++
						_ = c.n.Drop(way, 0)
					} else {
						c.deliver(t, way, 0)
					}
				}
			}
		}
		for side, e := range c.ends {
			if e.Err() != nil || e.Waiting() != 0 || len(c.taken[side]) != 20 {
				t.Fatalf("side %d: %v, %d wait, %d came", side, e.Err(), e.Waiting(), len(c.taken[side]))
			}
		}
	}
}

// Frames of one answer, and of several answers, share no memory, nor do payloads that came.
func TestNewMemory(t *testing.T) {
	e := link.New()
	given := roomy("payload")
	checkCode(t, "Send", e.Send(given), api.OK)
	spoil(given)
	for _, number := range []uint32{0, 1, 0} {
		frame := roomy(dataFrame(number, "came"))
		if !e.Hear(frame) {
			t.Fatal("no frame")
		}
		spoil(frame)
	}
	want := []string{ackFrame(0), ackFrame(1), ackFrame(0), dataFrame(0, "payload")}
	frames := e.Step()
	for i := range frames {
		checkFrames(t, i, frames, want...)
		spoil(frames[i])
		want[i] = string(frames[i])
	}
	_ = append(frames, []byte("more"))
	clear(frames)
	quiet(t, e, 3)
	again := e.Step()
	checkFrames(t, "again", again, dataFrame(0, "payload"))
	first, _ := e.Take()
	spoil(first)
	second, _ := e.Take()
	if string(second) != "came" {
		t.Errorf("Take: %q", second)
	}
	spoil(second)
	checkFrames(t, "again", again, dataFrame(0, "payload"))
	hears(t, e, dataFrame(0, "came"), true)
	checkFrames(t, "owed", e.Step(), ackFrame(0))
}

// heapInUse: how many bytes are still held.
func heapInUse() uint64 {
	var m runtime.MemStats
	runtime.GC()
	runtime.ReadMemStats(&m)
	return m.HeapAlloc
}

// What is done, and what was taken, is kept no longer.
func TestKeepsNoMore(t *testing.T) {
	const size, count = 1 << 19, 40
	e, payload := link.New(), make([]byte, size)
	for range count + 1 {
		checkCode(t, "Send", e.Send(payload), api.OK)
	}
	frames := make([][]byte, count)
	for number := range frames {
		e.Step()
		e.Hear(link.Seal(1, uint32(number), nil))
		frames[number] = link.Seal(0, uint32(number), payload)
	}
	for _, frame := range frames {
		e.Hear(frame)
	}
	for range count - 1 {
		e.Take()
	}
	frames = nil
	if held := heapInUse(); held > 10*size {
		t.Errorf("%d bytes are held for two payloads of %d", held, size)
	}
	checkWaiting(t, e, 1)
	takes(t, e, string(payload))
}

func FuzzOpen(f *testing.F) {
	f.Add([]byte(dataFrame(1, "abc")), true)
	f.Add([]byte(ackFrame(1)), true)
	f.Add([]byte{1, 0, 0, 0, 0, 9}, false)
	f.Fuzz(func(t *testing.T, b []byte, whole bool) {
		frame := string(b)
		if !whole {
			frame = closed(b)
		}
		checkOpen(t, frame)
	})
}

func FuzzCalls(f *testing.F) {
	f.Add([]byte{0, 1, 1, 0, 2, 0, 3, 0, 4, 0, 1, 0})
	f.Add(append([]byte{0, 7}, bytes.Repeat([]byte{1, 0}, 34)...))
	f.Fuzz(func(t *testing.T, b []byte) {
		p := newPair()
		for ; len(b) >= 2; b = b[2:] {
			near := uint32(int8(b[1]) / 16)
			p.call(t, []call{
				{act: send, bytes: string(b[1:2])},
				{act: step, times: int(b[1] % 8)},
				{act: hear, bytes: ackFrame(uint32(p.m.done) + near)},
				{act: hear, bytes: dataFrame(uint32(len(p.m.came))+near, string(b[:2]))},
				{act: take},
				{act: hear, bytes: string(b[:min(len(b), int(b[1]))])},
			}[b[0]%6])
		}
		p.finish(t)
	})
}
