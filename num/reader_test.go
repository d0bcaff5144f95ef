package num_test

import (
	"bytes"
	"math"
	"testing"

	"prolepsis/api"
	"prolepsis/num"
)

// stands: the reader's place and error are these.
func stands(t *testing.T, r *num.Reader, at int, e api.Errno) {
	t.Helper()
	if r.At() != at || r.Err() != e {
		t.Errorf("at %d with error %d, not at %d with error %d", r.At(), r.Err(), at, e)
	}
}

// P1.3

func TestReaderAtFirst(t *testing.T) {
	stands(t, num.New([]byte{1}), 0, api.OK)
	for _, b := range [][]byte{nil, {}} {
		r := num.New(b)
		stands(t, r, 0, api.OK)
		if r.Done() != api.OK {
			t.Error(r.Done())
		}
	}
}

func TestReaderGoesOn(t *testing.T) {
	r := num.New(append(num.Bytes(300, 0, math.MaxUint64, 7, 200), "abc"...))
	if n := r.Number(); n != 300 {
		t.Error(n)
	}
	stands(t, r, 2, api.OK)
	if n := r.Number(); n != 0 {
		t.Error(n)
	}
	stands(t, r, 3, api.OK)
	if n := r.Number(); n != math.MaxUint64 {
		t.Error(n)
	}
	stands(t, r, 13, api.OK)
	if n := r.Upto(8); n != 7 {
		t.Error(n)
	}
	stands(t, r, 14, api.OK)
	if n := r.Some(200); n != 200 {
		t.Error(n)
	}
	stands(t, r, 16, api.OK)
	if b := r.Take(2); string(b) != "ab" {
		t.Error(b)
	}
	stands(t, r, 18, api.OK)
	if r.Done() != api.ErrForm {
		t.Error(r.Done())
	}
	stands(t, r, 18, api.OK) // Done only tells: a reader may go on behind it
	if b := r.Take(1); string(b) != "c" {
		t.Error(b)
	}
	if r.Done() != api.OK {
		t.Error(r.Done())
	}
	stands(t, r, 19, api.OK)
}

func TestNumberOfWrongBytes(t *testing.T) {
	for _, x := range []struct {
		b []byte
		e api.Errno
	}{{nil, api.ErrEnd}, {[]byte{128}, api.ErrEnd}, {[]byte{128, 0}, api.ErrForm}, {full(9, 255, 2), api.ErrForm}} {
		for name, call := range map[string]func(*num.Reader) uint64{
			"Number": (*num.Reader).Number,
			"Upto":   func(r *num.Reader) uint64 { return uint64(r.Upto(9)) },
			"Some":   func(r *num.Reader) uint64 { return uint64(r.Some(9)) },
			// The number's own error is named ahead of what is too much.
			"Upto of a most below 0": func(r *num.Reader) uint64 { return uint64(r.Upto(-1)) },
			"Some of a most below 0": func(r *num.Reader) uint64 { return uint64(r.Some(-1)) },
		} {
			r := num.New(append([]byte{5}, x.b...))
			r.Number()
			if n := call(r); n != 0 {
				t.Errorf("%s of %v: %d", name, x.b, n)
			}
			stands(t, r, 1, x.e)
			if r.Done() != x.e {
				t.Errorf("Done behind %s of %v: %d", name, x.b, r.Done())
			}
		}
	}
}

func TestWhatIsTooMuch(t *testing.T) {
	for _, x := range []struct {
		n    uint64
		most int
		fits bool
	}{
		{0, 0, true}, {1, 0, false}, {7, 7, true}, {8, 7, false}, {6, 7, true}, {300, 299, false},
		{math.MaxInt, math.MaxInt, true}, {math.MaxInt + 1, math.MaxInt, false}, {math.MaxUint64, math.MaxInt, false},
		{0, -1, false}, {5, -1, false}, {0, math.MinInt, false}, {math.MaxUint64, -1, false}, {1 << 63, math.MinInt, false},
	} {
		for name, y := range map[string]struct {
			call func(*num.Reader, int) int
			e    api.Errno
		}{"Upto": {(*num.Reader).Upto, api.ErrRange}, "Some": {(*num.Reader).Some, api.ErrMany}} {
			r := num.New(num.Bytes(9, x.n))
			r.Number()
			n, at, e, got := 0, 1, y.e, y.call(r, x.most)
			if x.fits {
				n, at, e = int(x.n), 1+num.Size(x.n), api.OK
			}
			if got != n {
				t.Errorf("%s(%d) of %d: %d", name, x.most, x.n, got)
			}
			stands(t, r, at, e)
		}
	}
}

func TestTake(t *testing.T) {
	for _, x := range []struct {
		n    int
		want string
		e    api.Errno
	}{
		{0, "", api.OK}, {1, "b", api.OK}, {3, "bcd", api.OK},
		{4, "", api.ErrEnd}, {math.MaxInt, "", api.ErrEnd}, {-1, "", api.ErrEnd}, {math.MinInt, "", api.ErrEnd},
	} {
		r := num.New([]byte("abcd"))
		r.Take(1)
		if b := r.Take(x.n); string(b) != x.want {
			t.Errorf("Take(%d): %q", x.n, b)
		}
		stands(t, r, 1+len(x.want), x.e)
	}
	r := num.New(nil)
	if b := r.Take(0); len(b) != 0 {
		t.Error(b)
	}
	stands(t, r, 0, api.OK)
	r.Take(1)
	stands(t, r, 0, api.ErrEnd)
}

func TestFail(t *testing.T) {
	r := num.New([]byte{5, 6})
	r.Number()
	r.Fail(api.OK)
	stands(t, r, 1, api.OK)
	r.Fail(api.ErrKind)
	stands(t, r, 1, api.ErrKind)
	r.Fail(api.ErrText)
	stands(t, r, 1, api.ErrKind)
	r.Fail(api.OK)
	stands(t, r, 1, api.ErrKind)
	if r.Done() != api.ErrKind {
		t.Error(r.Done())
	}
	r = num.New(nil)
	r.Fail(-7)
	stands(t, r, 0, -7)
}

func TestTheFirstErrorStays(t *testing.T) {
	for name, spoil := range map[string]struct {
		call func(*num.Reader)
		e    api.Errno
	}{
		"Upto": {func(r *num.Reader) { r.Upto(2) }, api.ErrRange},
		"Some": {func(r *num.Reader) { r.Some(2) }, api.ErrMany},
		"Take": {func(r *num.Reader) { r.Take(9) }, api.ErrEnd},
		"Fail": {func(r *num.Reader) { r.Fail(api.ErrSize) }, api.ErrSize},
	} {
		r := num.New([]byte{1, 3, 3, 3})
		r.Number()
		spoil.call(r)
		if r.Number() != 0 || r.Upto(9) != 0 || r.Some(9) != 0 || len(r.Take(1)) != 0 || len(r.Take(0)) != 0 {
			t.Errorf("something is taken behind the error of %s", name)
		}
		r.Upto(-1)
		r.Some(-1)
		r.Take(-1)
		r.Take(99)
		r.Fail(api.ErrDown)
		stands(t, r, 1, spoil.e)
		if r.Done() != spoil.e {
			t.Errorf("Done behind %s: %d", name, r.Done())
		}
	}
}

// P1.4

func TestReaderReadsWhatWasTold(t *testing.T) {
	l := edges()
	r := num.New(num.Bytes(l...))
	at := 0
	for _, n := range l {
		if m := r.Number(); m != n {
			t.Errorf("%d was told, and read as %d", n, m)
		}
		at += num.Size(n)
		stands(t, r, at, api.OK)
	}
	if r.Done() != api.OK {
		t.Error(r.Done())
	}
}

func TestNilReader(t *testing.T) {
	var r *num.Reader
	for range 2 {
		if r.Number() != 0 || r.Upto(9) != 0 || r.Some(9) != 0 || len(r.Take(0)) != 0 || len(r.Take(1)) != 0 {
			t.Error("a nil reader takes something")
		}
		if r.Upto(-1) != 0 || r.Some(-1) != 0 || len(r.Take(-1)) != 0 {
			t.Error("a nil reader takes something of a number below 0")
		}
		stands(t, r, 0, api.ErrArg)
		if r.Done() != api.ErrArg {
			t.Error(r.Done())
		}
		r.Fail(api.ErrText)
		r.Fail(api.OK)
	}
}

// P1, P2 and the rule of memory

func TestReaderSharesNoMemory(t *testing.T) {
	own := []byte("abcdefzz")
	given := own[:6]
	r := num.New(given)
	copy(own, "XXXXXXXX")
	first := r.Take(2)
	copy(first[:cap(first)], "YYYYYYYY")
	_ = append(first, 'Y', 'Y', 'Y')
	second := r.Take(2)
	if string(second) != "cd" || string(r.Take(2)) != "ef" {
		t.Errorf("%q", second)
	}
	if string(own) != "XXXXXXXX" {
		t.Errorf("%q", own)
	}
	if string(first) != "YY" {
		t.Errorf("%q", first)
	}
}

// drive: what a reader answers to calls that the steps name, each with an odd argument.
func drive(b, steps []byte) []int {
	r := num.New(b)
	odd := []int{0, 1, -1, 2, 127, 128, math.MaxInt, math.MinInt}
	var out []int
	for _, s := range steps {
		x := odd[s>>3%8]
		switch s % 6 {
		case 0:
			out = append(out, int(r.Number()))
		case 1:
			out = append(out, r.Upto(x))
		case 2:
			out = append(out, r.Some(x))
		case 3:
			for _, c := range r.Take(x) {
				out = append(out, int(c))
			}
		case 4:
			if s > 200 {
				r.Fail(api.Errno(x))
			}
		}
		out = append(out, r.At(), int(r.Err()), int(r.Done()))
	}
	return out
}

func FuzzReader(f *testing.F) {
	f.Add([]byte{5, 172, 2, 'a', 'b', 128, 0}, []byte{0, 1, 2, 3, 4, 5, 11, 19, 27, 255})
	f.Add([]byte{}, []byte{3, 4, 204, 0})
	f.Add(full(9, 255, 1, 3), []byte{0, 9, 2})
	f.Fuzz(func(t *testing.T, b, steps []byte) {
		before := bytes.Clone(b)
		first, second := drive(b, steps), drive(b, steps)
		if len(first) != len(second) {
			t.Fatal(first, second)
		}
		for i := range first {
			if first[i] != second[i] {
				t.Fatal(first, second)
			}
		}
		if !bytes.Equal(b, before) {
			t.Error("the bytes that were handed in have changed")
		}
	})
}
