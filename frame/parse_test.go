package frame_test

import (
	"bytes"
	"math"
	"math/rand"
	"slices"
	"testing"

	"prolepsis/api"
	"prolepsis/frame"
)

// refused: Parse of these bytes tells this error, and the zero frame.
func refused(t *testing.T, b []byte, e api.Errno) {
	t.Helper()
	if f, got := frame.Parse(b); got != e || !zero(f) {
		t.Errorf("%v: %v, %d, not %d", b, f, got, e)
	}
}

// P13.2: by hand.
func TestParseByHand(t *testing.T) {
	for _, x := range []struct {
		b []byte
		f Frame
	}{
		{[]byte{'F', 1, 0, 2, 0, 1, 1, 0, 0, 0}, framed(1, 0, 2, 0, small())},
		{[]byte{'F', 9, 8, 7, 6, 5, 4, 3, 2, 0}, framed(9, 8, 7, 6, made(5, 4, 3, 2))},
		{[]byte{'F', 172, 2, 128, 1, 0, 127, 1, 2, 0, 1, 1, 0, 0, 1, 1, 1, 0, 97, 0}, framed(300, 128, 0, 127, made(1, 2, 0, 1, span(0, 0, Line{a})))},
	} {
		if f, e := frame.Parse(x.b); e != api.OK || !alike(f, x.f) || !frame.Same(f, x.f) {
			t.Errorf("%v: %v, %d, not %v", x.b, f, e, x.f)
		}
		agreesParsed(t, x.b)
	}
}

// P13.2: bytes that don't begin with F, none among them.
func TestMagic(t *testing.T) {
	right := []byte{1, 0, 2, 0, 1, 1, 0, 0, 0}
	for _, b := range [][]byte{nil, {}, []byte("F")[:0], {0}, []byte("K"), []byte("f"), []byte(" F"), right, make([]byte, 65536)} {
		refused(t, b, api.ErrMagic)
	}
	for c := range 256 {
		for _, behind := range [][]byte{nil, {128, 0}, {1}, right, append(right, 7), {1, 1, 2, 0, 1, 1, 0, 0, 0}} {
			b := append([]byte{byte(c)}, behind...)
			if agreesParsed(t, b); c != 'F' {
				refused(t, b, api.ErrMagic)
			}
		}
	}
}

// P13.2: so many bytes and more, whatever they are.
func TestManyBytes(t *testing.T) {
	full := whole(sized(t, 65536))
	agreesParsed(t, full)
	if _, e := frame.Parse(full); e != api.OK {
		t.Error(e)
	}
	begun := func(n int, b ...byte) []byte { return append(b, make([]byte, n-len(b))...) }
	short := []byte{'F', 1, 0, 2, 0, 1, 1, 0, 0, 0}
	for _, x := range []struct {
		b []byte
		e api.Errno
	}{
		{begun(65536), api.ErrMagic},
		{begun(65536, 'K', 1), api.ErrMagic},
		{begun(65536, 'F'), api.ErrSize},
		{begun(65536, 'F', 1, 0, 0, 0, 1, 1), api.ErrForm},
		{begun(65536, 'F', 128), api.ErrForm},
		{begun(65536, short...), api.ErrForm},
		{slices.Concat([]byte("F"), bytes.Repeat([]byte{128}, 65535)), api.ErrForm},
		{full[:65535], api.ErrEnd},
	} {
		refused(t, x.b, x.e)
		for _, more := range []int{65537 - len(x.b), 65538, 1 << 20} {
			refused(t, append(slices.Clone(x.b), make([]byte, more)...), api.ErrLong)
		}
	}
	for _, n := range []int{65537, 65538, 65600, 131072} {
		refused(t, whole(sized(t, n)), api.ErrLong)
		refused(t, bytes.Repeat([]byte("F"), n), api.ErrLong)
	}
	refused(t, append(slices.Clone(full), 0), api.ErrLong)
}

// wrongNumbers: bytes that are no number, and why.
func wrongNumbers() map[string]api.Errno {
	nine := string(bytes.Repeat([]byte{255}, 9))
	return map[string]api.Errno{
		"\x80\x00":            api.ErrForm,
		"\xff\x80\x00":        api.ErrForm,
		nine + "\x02":         api.ErrForm,
		nine + "\x00":         api.ErrForm,
		nine + "\x80":         api.ErrForm,
		nine + "\xff\x01":     api.ErrForm,
		nine[:8] + "\x00":     api.ErrForm,
		"\x80\x80\x80\x00":    api.ErrForm,
		nine + "\x81\x00\x01": api.ErrForm,
	}
}

// P13.2: each of the four numbers cut short, or misformed; the first of them is told.
func TestEachNumber(t *testing.T) {
	numbers := []uint64{300, 200, 16384, top}
	behind := []byte{1, 1, 0, 0, 0}
	for i := range numbers {
		ahead := behindF(numbers[:i]...)
		for wrong, e := range wrongNumbers() {
			for _, more := range [][]byte{nil, behind, {1, 1, 1, 1, 1, 0, 0, 0}, {128, 0}, {128}, {0, 0, 0, 0, 0}, {255, 255}} {
				refused(t, slices.Concat(ahead, []byte(wrong), more), e)
				agreesParsed(t, slices.Concat(ahead, []byte(wrong), more))
			}
		}
		for _, cut := range [][]byte{nil, {128}, {255, 255}, bytes.Repeat([]byte{255}, 9), bytes.Repeat([]byte{128}, 9)} {
			refused(t, slices.Concat(ahead, cut), api.ErrEnd)
			agreesParsed(t, slices.Concat(ahead, cut))
		}
	}
	// Any number is right, in each place, but that the first one is above the second.
	for _, n := range edges() {
		for i := range numbers {
			l := slices.Clone(numbers)
			l[i] = n
			b := slices.Concat(behindF(l...), behind)
			if agreesParsed(t, b); l[0] <= l[1] {
				refused(t, b, api.ErrOrder)
			} else if f, e := frame.Parse(b); e != api.OK || !alike(f, framed(l[0], l[1], l[2], l[3], small())) {
				t.Errorf("%v: %v, %d", b, f, e)
			}
		}
	}
}

// wrongTold: numbers that tell no difference, and the first error, by chapters 10 to 12.
func wrongTold() map[api.Errno][][]uint64 {
	return map[api.Errno][][]uint64{
		api.ErrRange: {
			{513}, {1, 513}, {1, 1, 513}, {1, 1, 0, 513}, {top}, {1, top},
			{1, 1, 0, 0, 1, 513}, {1, 1, 0, 0, 1, 0, 513}, {0, 0, 0, 0, 1, top},
			{1, 1, 1, 0, 0}, {1, 1, 0, 1, 0}, {2, 2, 0, 0, 1, 2, 0, 1, 1, 0, 0}, {2, 2, 0, 0, 1, 0, 2, 1, 1, 0, 0},
			{2, 2, 0, 0, 1, 0, 1, 1, 2, 0, 0}, {1, 1, 0, 0, 1, 0, 0, 1, 1, 3}, {1, 1, 0, 0, 1, 0, 0, 1, 1, 0, 16928},
			{1, 1, 0, 0, 1, 0, 0, 1, 1, 1, 0, 0x110000}, {1, 1, 0, 0, 1, 0, 0, 1, 1, 1, 0, 'a', 1, 0x110000},
		},
		api.ErrMany: {
			{1, 1, 0, 0, 513}, {1, 1, 0, 0, top}, {1, 1, 0, 0, 1, 0, 0, 513}, {1, 1, 0, 0, 1, 0, 0, 1, 513},
			{1, 1, 0, 0, 1, 0, 0, 1, 1, 1, 0, 'a', 3},
		},
		api.ErrSize: {{0, 0, 0, 0, 0}, {0, 1, 0, 0, 0}, {1, 0, 0, 0, 0}, {0, 1, 0, 0, 1, 0, 0, 1, 1, 0, 0}},
		api.ErrOrder: {
			{2, 2, 0, 0, 2, 0, 0, 1, 1, 0, 0, 0, 1, 1, 1, 0, 0}, {2, 2, 0, 0, 2, 1, 0, 1, 1, 0, 0, 0, 1, 1, 1, 0, 0},
		},
		api.ErrForm: {
			{1, 1, 0, 0, 1, 0, 0, 0}, {1, 1, 0, 0, 1, 0, 0, 1, 0}, {1, 1, 0, 0, 1, 0, 0, 1, 1, 2, 0, 'a', 0},
			{1, 1, 0, 0, 1, 0, 0, 1, 1, 1, 0, 'a', 1, 0}, {1, 2, 0, 0, 1, 0, 0, 2, 1, 0, 0, 1, 0, 0},
		},
		api.ErrEnd: {
			{}, {1}, {1, 1}, {1, 1, 0}, {1, 1, 0, 0}, {1, 1, 0, 0, 1}, {1, 1, 0, 0, 512}, {1, 1, 0, 0, 1, 0}, {1, 1, 0, 0, 1, 0, 0},
			{1, 1, 0, 0, 1, 0, 0, 1}, {1, 1, 0, 0, 1, 0, 0, 1, 1, 1, 0, 'a'}, {0}, {0, 0, 7},
		},
	}
}

// P13.2: each error of the difference, whether the number is above the base or not, and with bytes behind it.
func TestWrongDifferencesTold(t *testing.T) {
	for e, l := range wrongTold() {
		for _, numbers := range l {
			for _, head := range [][]uint64{{1, 0, 0, 0}, {top, 300, 7, 128}, {0, 0, 0, 0}, {1, 1, 9, 9}, {1, 2, 0, 0}, {300, top, 0, 0}} {
				b := behindF(slices.Concat(head, numbers)...)
				refused(t, b, e)
				agreesParsed(t, b)
				if e != api.ErrEnd {
					refused(t, append(b, 7), e)
				}
			}
		}
	}
	// A number that is none, in a difference.
	for wrong, e := range wrongNumbers() {
		for _, ahead := range [][]uint64{{}, {1}, {1, 1}, {1, 1, 0}, {1, 1, 0, 0}, {1, 1, 0, 0, 1}, {1, 1, 0, 0, 1, 0}, {1, 1, 0, 0, 1, 0, 0}} {
			for _, base := range []uint64{0, 1, 2} {
				refused(t, slices.Concat(behindF(1, base, 3, 4), toldBy(ahead...), []byte(wrong), []byte{0, 0}), e)
			}
		}
	}
}

// P13.2: a number that isn't above the base, alone, and where bytes are left.
func TestOrderIsTheLast(t *testing.T) {
	spans := made(3, 4, 2, 3, span(0, 1, Line{a, a, b}), span(2, 2, Line{left, right}))
	for _, n := range edges() {
		for _, base := range []uint64{n, max(n, n+1), top} {
			for _, f := range []Frame{framed(n, base, 5, 6, small()), framed(n, base, top, 0, spans)} {
				b := whole(f)
				refused(t, b, api.ErrOrder)
				for _, more := range [][]byte{{0}, {7}, {128}, b} {
					refused(t, slices.Concat(b, more), api.ErrForm)
				}
				for cut := 1; cut < len(b); cut++ {
					refused(t, b[:cut], api.ErrEnd)
				}
			}
		}
	}
}

// P13.2: bytes cut short at each place, and with more behind.
func TestCutShort(t *testing.T) {
	many := made(512, 512, 511, 511)
	for r := range 40 {
		many.Spans = append(many.Spans, span(r*12, r, Line{two, left, right}))
	}
	for _, f := range []Frame{
		framed(1, 0, 2, 0, small()),
		framed(top, top-1, top, top, made(512, 512, 511, 511)),
		framed(300, 2, 5, 128, made(1, 2, 0, 0, span(0, 0, Line{a}))),
		framed(16384, 16383, 0, 1, many),
	} {
		b := whole(f)
		agreesParsed(t, b)
		refused(t, b[:0], api.ErrMagic)
		for n := 1; n < len(b); n++ {
			refused(t, b[:n], api.ErrEnd)
		}
		for _, more := range [][]byte{{0}, {1}, {128}, {128, 0}, {'F'}, b} {
			refused(t, slices.Concat(b, more), api.ErrForm)
		}
	}
}

// P13.2, P13.3: all short rows of some bytes, by themselves and behind beginnings.
func TestShortBytes(t *testing.T) {
	some := []byte{0, 1, 2, 'F', 128}
	var further func(b []byte, more int)
	further = func(b []byte, more int) {
		agreesParsed(t, b)
		if more == 0 {
			return
		}
		for _, c := range some {
			further(append(slices.Clone(b), c), more-1)
		}
	}
	further(nil, 6)
	further([]byte{'F'}, 6)
	further([]byte{'F', 2, 1}, 5)
	further([]byte{'F', 1, 0, 0, 0}, 6)
	further([]byte{'F', 1, 1, 0, 0, 2}, 5)
	further([]byte{'F', 2, 0, 0, 0, 2, 2, 1, 1, 1}, 6)
}

// P13.2, P13.3: frames' bytes with a few of them changed, taken out or put in.
func TestChangedBytes(t *testing.T) {
	chance := rand.New(rand.NewSource(31))
	for range 6000 {
		b := whole(anyFrame(chance))
		agreesParsed(t, b)
		for range 4 {
			// More often among the numbers of the frame itself.
			i := chance.Intn(min(len(b), 1<<(2+chance.Intn(10))))
			switch chance.Intn(3) {
			case 0:
				b[i] = byte(chance.Intn(256))
			case 1:
				b = slices.Insert(b, i, byte(chance.Intn(256)))
			case 2:
				b = append(slices.Delete(b, i, i+1), 0)
			}
			agreesParsed(t, b)
		}
	}
}

// What is handed in stays as it is, its spare room too; what is told is new, and no two of its lists share any.
func TestFramesAreNew(t *testing.T) {
	f := framed(9, 8, 7, 6, made(3, 12, 1, 2, span(0, 0, Line{a, two, left, right}), span(1, 0, times(12, a)), span(2, 3, inTurn(9))))
	told := whole(f)
	room := append(slices.Clone(told), "spare room"...)
	before := slices.Clone(room)
	first, e := frame.Parse(room[:len(told)])
	second, _ := frame.Parse(room[:len(told)])
	if e != api.OK {
		t.Fatal(e)
	}
	for i, x := range []Frame{first, second} {
		for j, s := range x.Diff.Spans {
			if !slices.Equal(s.Cells, f.Diff.Spans[j].Cells) {
				t.Errorf("frame %d, span %d shares memory: %v", i, j, s)
			}
			for k := range s.Cells[:cap(s.Cells)] {
				s.Cells[:cap(s.Cells)][k] = wrong
			}
		}
		for j := range x.Diff.Spans[:cap(x.Diff.Spans)] {
			x.Diff.Spans[:cap(x.Diff.Spans)][j] = Span{}
		}
	}
	if !bytes.Equal(room, before) {
		t.Error("the bytes that were handed in have changed")
	}
	// Nor does a later change of them show.
	x, _ := frame.Parse(room[:len(told)])
	clear(room)
	if !alike(x, f) {
		t.Error("the bytes that were handed in are kept")
	}
}

// P2: the same bytes tell the same, whatever was asked in between.
func TestParseAgain(t *testing.T) {
	chance := rand.New(rand.NewSource(5))
	for range 500 {
		b := whole(anyFrame(chance))
		b[chance.Intn(len(b))] += byte(chance.Intn(2))
		f, e := frame.Parse(b)
		frame.Parse(nil)
		frame.Parse(b[1:])
		frame.Bytes(anyFrame(chance))
		again, x := frame.Parse(slices.Clone(b))
		if e != x || !alike(f, again) {
			t.Fatal(b, f, e, again, x)
		}
	}
}

// P1, P13.2, P13.3: any bytes.
func FuzzParse(f *testing.F) {
	f.Add([]byte{'F', 1, 0, 2, 0, 1, 1, 0, 0, 0})
	f.Add([]byte{'F', 1, 1, 2, 0, 1, 1, 0, 0, 0})
	f.Add(behindF(300, 2, math.MaxUint64, 128, 1, 2, 0, 1, 1, 0, 0, 1, 1, 1, 0, 97, 0))
	f.Add([]byte("K"))
	f.Fuzz(func(t *testing.T, b []byte) { agreesParsed(t, b) })
}
