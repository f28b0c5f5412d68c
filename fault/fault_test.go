package fault_test

import (
	"errors"
	"fmt"
	"math"
	"slices"
	"strconv"
	"strings"
	"testing"

	"twain/api"
	"twain/fault"
)

// every lists all numbers of api, and some that api doesn't know: Code tells whichever is there.
func every() []api.Errno {
	return []api.Errno{
		api.OK, api.ErrRange, api.ErrLong, api.ErrNone, api.ErrFull, api.ErrTape, api.ErrWire, api.ErrLink,
		api.ErrStock, api.ErrCircuit, api.ErrGarble, api.ErrMicro, api.ErrLex, api.ErrParse, api.ErrName,
		api.ErrShape, api.ErrLimit, api.ErrPlan, api.ErrDigest, api.ErrInput, api.ErrPeer,
		7, -1, math.MaxInt, math.MinInt,
	}
}

// spots: ordinary names, and those that look like the text's own signs.
func spots() ([]string, []int) {
	return []string{"tape", "", "a@1: ", "party", "é\x00\xff", "errno 3"},
		[]int{3, 0, -1, math.MaxInt, math.MinInt, 1}
}

// wrapAll wraps err in the places, the last one outermost.
func wrapAll(err error, names []string, ats []int) error {
	for i := range names {
		err = fault.Wrap(err, names[i], ats[i])
	}
	return err
}

// deep wraps err n times, in p0, p1, ..
func deep(err error, n int) error {
	for i := range n {
		err = fault.Wrap(err, "p"+strconv.Itoa(i), i)
	}
	return err
}

// outer is a wrapping that isn't fault's.
type outer struct{ inner error }

func (o outer) Error() string { return "outer: " + o.inner.Error() }
func (o outer) Unwrap() error { return o.inner }

// listed can't be compared: holding it against another would panic.
type listed []string

func (l listed) Error() string { return strings.Join(l, " ") }

func checkPlaces(t *testing.T, err error, names []string, ats []int) {
	t.Helper()
	gotNames, gotAts := fault.Places(err)
	if !slices.Equal(gotNames, names) || !slices.Equal(gotAts, ats) {
		t.Errorf("Places(%v): %q %v, want %q %v", err, gotNames, gotAts, names, ats)
	}
}

func checkText(t *testing.T, err error, want string) {
	t.Helper()
	if got := fault.Text(err); got != want {
		t.Errorf("Text: %q, want %q", got, want)
	}
}

func TestExamples(t *testing.T) {
	e := fault.Wrap(fault.Wrap(api.ErrTape, "tape", 3), "party", -1)
	if got := fault.Code(e); got != 40 {
		t.Errorf("Code: %d", got)
	}
	if !fault.Is(e, api.ErrTape) || fault.Is(e, api.ErrWire) {
		t.Error("Is: ErrTape is in it, ErrWire isn't")
	}
	checkPlaces(t, e, []string{"party", "tape"}, []int{-1, 3})
	checkText(t, e, "party@-1: tape@3: errno 40")
	if fault.Wrap(nil, "x", 1) != nil || fault.First(nil, nil) != nil {
		t.Error("nil isn't nil")
	}
}

func TestNil(t *testing.T) {
	if got := fault.Code(nil); got != api.OK {
		t.Errorf("Code: %d", got)
	}
	for _, e := range every() {
		if fault.Is(nil, e) {
			t.Errorf("Is(nil, %d)", int(e))
		}
	}
	checkPlaces(t, nil, nil, nil)
	checkText(t, nil, "")
	if err := deep(nil, api.MaxWrap+1); err != nil {
		t.Errorf("nil, wrapped: %v", err)
	}
}

func TestNumberInPlaces(t *testing.T) {
	names, ats := spots()
	for _, e := range every() {
		for n := range len(names) + 1 {
			err := wrapAll(e, names[:n], ats[:n])
			if got := fault.Code(err); got != e {
				t.Errorf("Code of %d in %d places: %d", int(e), n, int(got))
			}
			for _, f := range every() {
				if fault.Is(err, f) != (e == f) || errors.Is(err, f) != (e == f) {
					t.Errorf("is %d in %d, in %d places?", int(f), int(e), n)
				}
			}
			var code api.Errno
			if !errors.As(err, &code) || code != e {
				t.Errorf("errors.As of %d in %d places: %d", int(e), n, int(code))
			}
		}
	}
}

func TestOKWrapped(t *testing.T) {
	err := fault.Wrap(api.OK, "x", 2)
	if err == nil || fault.Code(err) != api.OK || !fault.Is(err, api.OK) || fault.Is(err, api.ErrNone) {
		t.Errorf("OK, wrapped: %v", err)
	}
	if !fault.Is(api.OK, api.OK) || fault.Code(api.OK) != api.OK {
		t.Error("OK itself is in OK")
	}
	checkPlaces(t, err, []string{"x"}, []int{2})
	checkText(t, err, "x@2: ok")
	checkText(t, api.OK, "ok")
}

func TestErrorWithoutNumber(t *testing.T) {
	for _, bare := range []error{errors.New("other"), listed{"o", "ther"}, outer{errors.New("x")}} {
		err := fault.Wrap(bare, "in", -7)
		if fault.Code(bare) != api.ErrNone || fault.Code(err) != api.ErrNone {
			t.Errorf("Code of %v: %d, %d", bare, fault.Code(bare), fault.Code(err))
		}
		for _, e := range every() {
			if fault.Is(bare, e) || fault.Is(err, e) {
				t.Errorf("%d is in %v", int(e), bare)
			}
		}
		checkPlaces(t, bare, nil, nil)
		checkPlaces(t, err, []string{"in"}, []int{-7})
		checkText(t, bare, bare.Error())
		checkText(t, err, "in@-7: "+bare.Error())
	}
}

func TestTextOfPlaces(t *testing.T) {
	names, ats := spots()
	for _, e := range every() {
		err, want := error(e), e.Error()
		for i := range names {
			err = fault.Wrap(err, names[i], ats[i])
			want = fmt.Sprintf("%s@%d: %s", names[i], ats[i], want)
			checkText(t, err, want)
			if err.Error() != want {
				t.Errorf("Error: %q, want %q", err.Error(), want)
			}
		}
	}
	checkText(t, fault.Wrap(api.Errno(math.MinInt), "", math.MinInt), "@-9223372036854775808: errno -9223372036854775808")
}

func TestPlacesOutermostFirst(t *testing.T) {
	names, ats := spots()
	for n := range len(names) + 1 {
		wantNames, wantAts := slices.Clone(names[:n]), slices.Clone(ats[:n])
		slices.Reverse(wantNames)
		slices.Reverse(wantAts)
		checkPlaces(t, wrapAll(api.ErrLex, names[:n], ats[:n]), wantNames, wantAts)
	}
	checkPlaces(t, api.ErrLex, nil, nil)
}

func TestMaxWrap(t *testing.T) {
	for _, bare := range []error{api.ErrWire, api.OK, errors.New("other")} {
		below := deep(bare, api.MaxWrap-1)
		full := fault.Wrap(below, "last", -64)
		names, ats := fault.Places(full)
		if len(names) != 64 || len(ats) != 64 || names[0] != "last" || ats[0] != -64 || names[63] != "p0" || ats[63] != 0 {
			t.Fatalf("%v: %d places: %q %v", bare, len(names), names, ats)
		}
		if errors.Unwrap(full) != below {
			t.Errorf("%v: the place 64 isn't the outermost", bare)
		}
		for range 3 {
			if more := fault.Wrap(full, "more", 1); more != full {
				t.Errorf("%v: wrapped once more it isn't itself: %v", bare, more)
			}
		}
		if fault.Code(full) != fault.Code(bare) {
			t.Errorf("Code %d, want %d", fault.Code(full), fault.Code(bare))
		}
		checkPlaces(t, fault.Wrap(errors.Unwrap(full), "anew", 5), append([]string{"anew"}, names[1:]...), append([]int{5}, ats[1:]...))
	}
}

// Another's wrapping between places: number and places are in it all the same.
func TestAnothersWrapping(t *testing.T) {
	inner := fault.Wrap(api.ErrStock, "corr", 1)
	err := fault.Wrap(outer{inner}, "party", 2)
	if fault.Code(err) != api.ErrStock || !fault.Is(err, api.ErrStock) || fault.Is(err, api.ErrTape) {
		t.Errorf("Code %d", fault.Code(err))
	}
	checkPlaces(t, err, []string{"party", "corr"}, []int{2, 1})
	checkText(t, err, "party@2: outer: corr@1: errno 80")
	full := error(outer{deep(api.ErrStock, api.MaxWrap)})
	if fault.Wrap(full, "more", 1) != full {
		t.Error("64 places, and another's wrapping: one more was taken")
	}
}

func TestUnwrapAll(t *testing.T) {
	bare := []error{errors.New("other"), outer{api.ErrTape}, outer{errors.New("x")}, deep(api.ErrPlan, 2)}
	for _, e := range every() {
		bare = append(bare, e)
	}
	for _, b := range bare {
		for n := range api.MaxWrap - 2 {
			err := deep(b, n)
			for k := range n {
				if fault.Code(err) != fault.Code(b) {
					t.Fatalf("%v: wrapped %d times: Code %d, want %d", b, n-k, fault.Code(err), fault.Code(b))
				}
				for _, e := range every() {
					if fault.Is(err, e) != fault.Is(b, e) {
						t.Fatalf("%v: wrapped %d times: Is(%d) differs", b, n-k, int(e))
					}
				}
				err = errors.Unwrap(err)
			}
			if err != b {
				t.Fatalf("%v: wrapped and unwrapped %d times: %v", b, n, err)
			}
		}
	}
}

func TestUnwrapOnce(t *testing.T) {
	err := deep(api.ErrPeer, 10)
	for n := 10; n > 0; n-- {
		names, ats := fault.Places(err)
		if len(names) != n {
			t.Fatalf("%d places, want %d", len(names), n)
		}
		err = errors.Unwrap(err)
		checkPlaces(t, err, names[1:], ats[1:])
	}
	if err != error(api.ErrPeer) || errors.Unwrap(err) != nil {
		t.Errorf("at the end stands %v", err)
	}
}

func TestFirst(t *testing.T) {
	a, b := errors.New("a"), fault.Wrap(api.ErrTape, "b", 1)
	if err := fault.First(); err != nil {
		t.Errorf("of none: %v", err)
	}
	for _, c := range []struct {
		errs []error
		want error
	}{
		{[]error{nil}, nil}, {[]error{nil, nil, nil}, nil}, {[]error{a}, a}, {[]error{a, b}, a}, {[]error{b, a}, b},
		{[]error{nil, b, nil, a}, b}, {[]error{nil, api.OK, a}, api.OK}, {[]error{}, nil}, {nil, nil},
	} {
		if got := fault.First(c.errs...); got != c.want {
			t.Errorf("First(%v): %v, want %v", c.errs, got, c.want)
		}
	}
	errs := []error{nil, b, a}
	got := fault.First(errs...)
	if !slices.Equal(errs, []error{nil, b, a}) {
		t.Errorf("the list that was handed in is %v", errs)
	}
	errs[1] = nil
	if got != b {
		t.Errorf("the answer hangs on the list: %v", got)
	}
}

func TestAnswersAreNewMemory(t *testing.T) {
	err := deep(api.ErrTape, 5)
	wantNames, wantAts := []string{"p4", "p3", "p2", "p1", "p0"}, []int{4, 3, 2, 1, 0}
	oneNames, oneAts := fault.Places(err)
	twoNames, twoAts := fault.Places(err)
	// Up to the spare room: that is the answer's own, too.
	for i := range oneNames[:cap(oneNames)] {
		oneNames[:cap(oneNames)][i] = "spoilt"
	}
	for i := range oneAts[:cap(oneAts)] {
		oneAts[:cap(oneAts)][i] = -99
	}
	if !slices.Equal(twoNames, wantNames) || !slices.Equal(twoAts, wantAts) {
		t.Errorf("two answers share memory: %q %v", twoNames, twoAts)
	}
	checkPlaces(t, err, wantNames, wantAts)
	more := fault.Wrap(err, "more", 6)
	checkPlaces(t, err, wantNames, wantAts)
	checkPlaces(t, more, append([]string{"more"}, wantNames...), append([]int{6}, wantAts...))
	checkText(t, err, "p4@4: p3@3: p2@2: p1@1: p0@0: errno 40")
}

// Two chains grow out of one: neither is in the other's way.
func TestOneErrorWrappedTwice(t *testing.T) {
	base := deep(api.ErrLink, 3)
	a, b := fault.Wrap(base, "a", 1), fault.Wrap(base, "b", 2)
	checkText(t, a, "a@1: p2@2: p1@1: p0@0: errno 70")
	checkText(t, b, "b@2: p2@2: p1@1: p0@0: errno 70")
	if errors.Unwrap(a) != base || errors.Unwrap(b) != base || a == b {
		t.Error("unwrapped it isn't the error that was wrapped")
	}
	if fault.Wrap(base, "a", 1) != a {
		t.Error("the same call answers otherwise")
	}
}
