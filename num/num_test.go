package num_test

import (
	"bytes"
	"encoding/binary"
	"math"
	"testing"

	"prolepsis/api"
	"prolepsis/num"
)

// edges: numbers about each border of a group and of a bit.
func edges() []uint64 {
	l := []uint64{0, math.MaxUint64}
	for i := range 64 {
		p := uint64(1) << i
		l = append(l, p-1, p, p+1, ^p)
	}
	return l
}

// full: n bytes that all say that another one comes, and then the last ones.
func full(n int, c byte, last ...byte) []byte {
	return append(bytes.Repeat([]byte{c}, n), last...)
}

// P1.1

func TestBytes(t *testing.T) {
	for _, x := range []struct {
		l []uint64
		b []byte
	}{
		{nil, nil},
		{[]uint64{0}, []byte{0}},
		{[]uint64{1}, []byte{1}},
		{[]uint64{127}, []byte{127}},
		{[]uint64{128}, []byte{128, 1}},
		{[]uint64{300}, []byte{172, 2}},
		{[]uint64{16383}, []byte{255, 127}},
		{[]uint64{16384}, []byte{128, 128, 1}},
		{[]uint64{1<<63 - 1}, full(8, 255, 127)},
		{[]uint64{1 << 63}, full(9, 128, 1)},
		{[]uint64{math.MaxUint64}, full(9, 255, 1)},
		{[]uint64{0, 300, 0, 5}, []byte{0, 172, 2, 0, 5}},
	} {
		if b := num.Bytes(x.l...); !bytes.Equal(b, x.b) {
			t.Errorf("Bytes(%v): %v, not %v", x.l, b, x.b)
		}
	}
	for _, n := range edges() {
		if b, want := num.Bytes(n), binary.AppendUvarint(nil, n); !bytes.Equal(b, want) {
			t.Errorf("Bytes(%d): %v, not %v", n, b, want)
		}
	}
}

func TestSize(t *testing.T) {
	for n, want := range map[uint64]int{0: 1, 1: 1, 127: 1, 128: 2, 300: 2, 16383: 2, 16384: 3, 1<<56 - 1: 8, 1 << 56: 9, 1<<63 - 1: 9, 1 << 63: 10, math.MaxUint64: 10} {
		if k := num.Size(n); k != want {
			t.Errorf("Size(%d): %d, not %d", n, k, want)
		}
	}
	for _, n := range edges() {
		if k, want := num.Size(n), len(num.Bytes(n)); k != want {
			t.Errorf("Size(%d): %d, but it has %d", n, k, want)
		}
	}
}

func TestRead(t *testing.T) {
	for _, x := range []struct {
		b []byte
		n uint64
		k int
		e api.Errno
	}{
		{[]byte{0}, 0, 1, api.OK},
		{[]byte{0, 0}, 0, 1, api.OK},
		{[]byte{127, 255}, 127, 1, api.OK},
		{[]byte{128, 1}, 128, 2, api.OK},
		{[]byte{172, 2, 128}, 300, 2, api.OK},
		{full(8, 255, 127), 1<<63 - 1, 9, api.OK},
		{full(9, 128, 1), 1 << 63, 10, api.OK},
		{full(9, 255, 1), math.MaxUint64, 10, api.OK},
		{full(9, 255, 1, 0), math.MaxUint64, 10, api.OK},
	} {
		if n, k, e := num.Read(x.b); n != x.n || k != x.k || e != x.e {
			t.Errorf("Read(%v): %d %d %d, not %d %d %d", x.b, n, k, e, x.n, x.k, x.e)
		}
	}
}

func TestReadOfWrongBytes(t *testing.T) {
	for _, x := range []struct {
		b []byte
		e api.Errno
	}{
		{nil, api.ErrEnd},
		{[]byte{}, api.ErrEnd},
		{[]byte{128}, api.ErrEnd},
		{[]byte{255, 255}, api.ErrEnd},
		{full(9, 128), api.ErrEnd},
		{full(9, 255), api.ErrEnd},
		{[]byte{128, 0}, api.ErrForm},
		{[]byte{129, 0, 1}, api.ErrForm},
		{[]byte{255, 128, 0}, api.ErrForm},
		{full(8, 255, 0), api.ErrForm},
		{full(9, 255, 0), api.ErrForm},
		{full(9, 128, 0), api.ErrForm},
		{full(9, 255, 2), api.ErrForm},
		{full(9, 255, 127), api.ErrForm},
		{full(9, 255, 128), api.ErrForm},
		{full(9, 255, 129), api.ErrForm},
		{full(10, 255), api.ErrForm},
		{full(10, 128, 1), api.ErrForm},
		{full(20, 255, 1), api.ErrForm},
	} {
		if n, k, e := num.Read(x.b); n != 0 || k != 0 || e != x.e {
			t.Errorf("Read(%v): %d %d %d, not 0 0 %d", x.b, n, k, e, x.e)
		}
	}
}

func TestReadOfEachTenthByte(t *testing.T) {
	for c := range 256 {
		b := full(9, 255, byte(c))
		_, k, e := num.Read(b)
		if c == 1 && (k != 10 || e != api.OK) || c != 1 && (k != 0 || e != api.ErrForm) {
			t.Errorf("a tenth byte %d: %d %d", c, k, e)
		}
	}
}

func TestReadOfWhatEndsEarly(t *testing.T) {
	for _, n := range edges() {
		b := num.Bytes(n)
		for i := range b {
			if n, k, e := num.Read(b[:i]); n != 0 || k != 0 || e != api.ErrEnd {
				t.Errorf("Read(%v): %d %d %d", b[:i], n, k, e)
			}
		}
	}
}

// P1.2

func TestAdd(t *testing.T) {
	const top = math.MaxUint64
	for _, x := range [][3]uint64{
		{0, 0, 0}, {2, 3, 5}, {top, 0, top}, {0, top, top}, {top - 1, 1, top}, {1, top - 1, top},
		{top, 1, top}, {1, top, top}, {top, top, top}, {1 << 63, 1 << 63, top}, {1 << 63, 1<<63 - 1, top}, {top - 1, 2, top},
	} {
		if s := num.Add(x[0], x[1]); s != x[2] {
			t.Errorf("Add(%d, %d): %d, not %d", x[0], x[1], s, x[2])
		}
	}
}

func TestSub(t *testing.T) {
	const top = math.MaxUint64
	for _, x := range [][3]uint64{
		{0, 0, 0}, {5, 3, 2}, {3, 5, 0}, {0, 1, 0}, {1, 0, 1}, {5, 5, 0}, {4, 5, 0}, {6, 5, 1},
		{top, 0, top}, {0, top, 0}, {top, top, 0}, {top, 1, top - 1}, {top - 1, top, 0}, {1 << 63, 1, 1<<63 - 1},
	} {
		if d := num.Sub(x[0], x[1]); d != x[2] {
			t.Errorf("Sub(%d, %d): %d, not %d", x[0], x[1], d, x[2])
		}
	}
}

// P1.4

func TestWhatWasToldIsReadAsItWas(t *testing.T) {
	l := edges()
	all := num.Bytes(l...)
	for _, n := range l {
		m, k, e := num.Read(all)
		if m != n || k != num.Size(n) || e != api.OK {
			t.Fatalf("%d was told, and read as %d %d %d", n, m, k, e)
		}
		all = all[k:]
	}
	if len(all) != 0 {
		t.Errorf("%v is left", all)
	}
}

func TestWhatWasReadIsToldByJustTheseBytes(t *testing.T) {
	some := []byte{0, 1, 2, 126, 127, 128, 129, 172, 254, 255}
	hold := func(b []byte) {
		n, k, e := num.Read(b)
		if e == api.OK && !bytes.Equal(num.Bytes(n), b[:k]) {
			t.Errorf("%v was read as %d, and told as %v", b[:k], n, num.Bytes(n))
		}
	}
	for i := range 1 << 16 {
		first, second := byte(i), byte(i>>8)
		hold([]byte{first, second})
		for _, third := range some {
			hold([]byte{first, second, third})
		}
		hold(full(8, 128, first, second))
		hold(full(8, 255, first, second))
	}
}

// P1, P2 and the rule of memory

func TestArgumentsStayAsTheyAre(t *testing.T) {
	l := []uint64{300, 5, 7}
	num.Bytes(l[:2]...)
	if l[0] != 300 || l[1] != 5 || l[2] != 7 {
		t.Error(l)
	}
	b := []byte{172, 2, 9}
	num.Read(b[:2])
	if !bytes.Equal(b, []byte{172, 2, 9}) {
		t.Error(b)
	}
}

func TestTheSameCallsHaveTheSameAnswers(t *testing.T) {
	first := num.Bytes(edges()...)
	for i := range first {
		first[i] = 0
	}
	if b := num.Bytes(1, 300); !bytes.Equal(b, []byte{1, 172, 2}) {
		t.Error(b)
	}
	for range 2 {
		n, k, e := num.Read([]byte{172, 2})
		if n != 300 || k != 2 || e != api.OK {
			t.Error(n, k, e)
		}
	}
}

func FuzzRead(f *testing.F) {
	for _, b := range [][]byte{nil, {0}, {128}, {128, 0}, {172, 2, 7}, full(9, 255, 1), full(9, 255, 2)} {
		f.Add(b)
	}
	f.Fuzz(func(t *testing.T, b []byte) {
		n, k, e := num.Read(b)
		want, size := binary.Uvarint(b)
		switch {
		case size == 0 && len(b) < 10:
			if n != 0 || k != 0 || e != api.ErrEnd {
				t.Errorf("Read(%v): %d %d %d", b, n, k, e)
			}
		case size <= 0 || size > 1 && b[size-1] == 0: // the library waits for an end behind a tenth byte
			if n != 0 || k != 0 || e != api.ErrForm {
				t.Errorf("Read(%v): %d %d %d", b, n, k, e)
			}
		default:
			if n != want || k != size || e != api.OK {
				t.Errorf("Read(%v): %d %d %d, not %d %d", b, n, k, e, want, size)
			}
		}
	})
}
