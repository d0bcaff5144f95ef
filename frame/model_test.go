package frame_test

import (
	"bytes"
	"encoding/binary"
	"math"
	"math/rand"
	"slices"
	"testing"

	"prolepsis/api"
	"prolepsis/cell"
	"prolepsis/delta"
	"prolepsis/diff"
	"prolepsis/frame"
	"prolepsis/num"
	"prolepsis/pen"
)

type (
	Cell  = cell.Cell
	Line  = []cell.Cell
	Diff  = diff.Diff
	Span  = diff.Span
	Frame = frame.Frame
)

// top is the greatest number.
const top = math.MaxUint64

// The cells of the tests.
var (
	a     = Cell{R: 'a', W: 1}
	b     = Cell{R: 'b', W: 1}
	two   = Cell{R: 'a', M: [2]rune{0x301, 0x302}, W: 1, Pen: pen.Pen{Flags: 31, Fore: 16, Back: 16}}
	left  = Cell{R: 0x3042, W: 2}
	right = Cell{}
	wrong = Cell{R: 'a', W: 2}
)

// edges: numbers about each border of a number's bytes.
func edges() []uint64 {
	return []uint64{0, 1, 2, 127, 128, 129, 300, 16383, 16384, 1<<31 - 1, 1 << 31, 1<<32 - 1, 1 << 32, 1<<32 + 1, 1<<63 - 1, 1 << 63, 1<<63 + 1, top - 1, top}
}

// times: a cell, so often.
func times(n int, c Cell) Line { return slices.Repeat(Line{c}, n) }

// inTurn: so many cells, a and b in turn, so that each is a run of its own, of five bytes.
func inTurn(n int) Line {
	l := times(n, a)
	for i := 1; i < n; i += 2 {
		l[i] = b
	}
	return l
}

// span: cells from that place on.
func span(row, col int, l Line) Span { return Span{Row: row, Col: col, Cells: l} }

// made: a difference of that size, with that cursor.
func made(rows, cols, row, col int, l ...Span) Diff {
	return Diff{Rows: rows, Cols: cols, Row: row, Col: col, Spans: l}
}

// small: the difference of the chapter's example.
func small() Diff { return made(1, 1, 0, 0) }

// framed: a frame of these numbers and that difference.
func framed(n, base, echo, stamp uint64, d Diff) Frame {
	return Frame{Num: n, Base: base, Echo: echo, Stamp: stamp, Diff: d}
}

// clone: a frame that shares nothing with another one.
func clone(f Frame) Frame {
	f.Diff.Spans = slices.Clone(f.Diff.Spans)
	for i, s := range f.Diff.Spans {
		f.Diff.Spans[i].Cells = slices.Clone(s.Cells)
	}
	return f
}

// toldBy: numbers' bytes.
func toldBy(numbers ...uint64) []byte {
	var b []byte
	for _, n := range numbers {
		b = binary.AppendUvarint(b, n)
	}
	return b
}

// behindF: F, and numbers' bytes.
func behindF(numbers ...uint64) []byte { return slices.Concat([]byte("F"), toldBy(numbers...)) }

// whole: F, the numbers' bytes, and the difference's.
func whole(f Frame) []byte {
	d, _ := delta.Bytes(f.Diff)
	return slices.Concat(behindF(f.Num, f.Base, f.Echo, f.Stamp), d)
}

// told: what the chapter says of Bytes and Check.
func told(f Frame) ([]byte, api.Errno) {
	if f.Num <= f.Base {
		return nil, 17
	}
	if _, e := delta.Bytes(f.Diff); e != 0 {
		return nil, e
	}
	if b := whole(f); len(b) <= 65536 {
		return b, 0
	}
	return nil, 2
}

// parsed: what the chapter says of Parse.
func parsed(b []byte) (Frame, api.Errno) {
	if len(b) > 65536 {
		return Frame{}, 2
	}
	if !bytes.HasPrefix(b, []byte("F")) {
		return Frame{}, 12
	}
	var f Frame
	at := 1
	for _, n := range []*uint64{&f.Num, &f.Base, &f.Echo, &f.Stamp} {
		x, size, e := num.Read(b[at:])
		if e != 0 {
			return Frame{}, e
		}
		*n = x
		at += size
	}
	r := num.New(b[at:])
	f.Diff = delta.Take(r)
	switch {
	case r.Err() != 0:
		return Frame{}, r.Err()
	case at+r.At() < len(b):
		return Frame{}, 3
	case f.Num <= f.Base:
		return Frame{}, 17
	}
	return f, 0
}

// alike: what the words say of frames that are the same, cell by cell.
func alike(f, g Frame) bool {
	d, e := f.Diff, g.Diff
	if f.Num != g.Num || f.Base != g.Base || f.Echo != g.Echo || f.Stamp != g.Stamp {
		return false
	}
	if d.Rows != e.Rows || d.Cols != e.Cols || d.Row != e.Row || d.Col != e.Col || len(d.Spans) != len(e.Spans) {
		return false
	}
	for i, s := range d.Spans {
		if x := e.Spans[i]; s.Row != x.Row || s.Col != x.Col || !slices.Equal(s.Cells, x.Cells) {
			return false
		}
	}
	return true
}

// zero: nothing is told beside an error.
func zero(f Frame) bool { return alike(f, Frame{}) }

// agreesTold: Bytes and Check of any frame are what the chapter says; what was told is parsed as it was.
func agreesTold(t *testing.T, f Frame) {
	t.Helper()
	was := clone(f)
	want, e := told(f)
	got, x := frame.Bytes(f)
	if x != e || !bytes.Equal(got, want) || frame.Check(f) != e {
		t.Fatalf("%v: %v, %d, checked %d, not %v, %d", f, got, x, frame.Check(f), want, e)
	}
	if !alike(f, was) {
		t.Fatalf("%v: is %v now", was, f)
	}
	if e != 0 {
		return
	}
	if g, e := frame.Parse(got); e != 0 || !alike(g, f) || !frame.Same(g, f) || !frame.Is(got) {
		t.Fatalf("%v: parsed as %v, %d", f, g, e)
	}
}

// agreesParsed: Parse of any bytes is what the chapter says; what was parsed is told by just these bytes.
func agreesParsed(t *testing.T, b []byte) {
	t.Helper()
	was := slices.Clone(b)
	want, e := parsed(b)
	f, got := frame.Parse(b)
	if got != e || !alike(f, want) {
		t.Fatalf("%v: %v, %d, not %v, %d", b, f, got, want, e)
	}
	if frame.Is(b) != (len(b) > 0 && b[0] == 70) {
		t.Fatalf("%v: Is answers %v", b, frame.Is(b))
	}
	if !bytes.Equal(b, was) {
		t.Fatalf("%v: is %v now", was, b)
	}
	if e != 0 {
		return
	}
	if again, e := frame.Bytes(f); e != 0 || frame.Check(f) != 0 || !bytes.Equal(again, b) {
		t.Fatalf("%v: told again as %v, %d", b, again, e)
	}
}

// sized: a right frame that has just so many bytes, from 10 on.
func sized(t *testing.T, n int) Frame {
	t.Helper()
	f := framed(1, 0, 0, 1, made(512, 512, 0, 0))
	for r := 0; ; r++ {
		// Five bytes at most for the span's own numbers, and five a cell.
		cells := min(512, (n-len(whole(f))-5)/5)
		if cells < 1 {
			break
		}
		f.Diff.Spans = append(f.Diff.Spans, span(r, 0, inTurn(cells)))
	}
	// The rest is a greater stamp's, of a byte more with each seven bits.
	for len(whole(f)) < n && f.Stamp < 1<<63 {
		f.Stamp <<= 7
	}
	if len(whole(f)) != n {
		t.Fatalf("a frame of %d bytes, not %d", len(whole(f)), n)
	}
	return f
}

// wrongDiff is a difference that isn't told, and the error that says why.
type wrongDiff struct {
	d Diff
	e api.Errno
}

// wrongDiffs: each error of a difference, of chapters 11 and 12.
func wrongDiffs() []wrongDiff {
	spans := func(l ...Span) Diff { return made(3, 4, 2, 3, l...) }
	return []wrongDiff{
		{Diff{}, api.ErrSize},
		{made(0, 1, 0, 0), api.ErrSize},
		{made(1, 0, 0, 0), api.ErrSize},
		{made(-1, 1, 0, 0), api.ErrSize},
		{made(513, 1, 0, 0), api.ErrSize},
		{made(1, 513, 0, 0), api.ErrSize},
		{made(1, math.MaxInt, 0, 0), api.ErrSize},
		{made(3, 4, 3, 0), api.ErrRange},
		{made(3, 4, 0, 4), api.ErrRange},
		{made(3, 4, -1, 0), api.ErrRange},
		{made(3, 4, 0, math.MinInt), api.ErrRange},
		{spans(span(1, 0, Line{a}), span(1, 1, Line{a})), api.ErrOrder},
		{spans(span(1, 0, Line{a}), span(0, 0, Line{a})), api.ErrOrder},
		{spans(span(3, 0, Line{a})), api.ErrRange},
		{spans(span(-1, 0, Line{a})), api.ErrRange},
		{spans(span(0, 4, Line{a})), api.ErrRange},
		{spans(span(0, -1, Line{a})), api.ErrRange},
		{spans(span(0, 3, Line{a, a})), api.ErrRange},
		{spans(span(0, 0, Line{a}), span(2, 0, times(5, a))), api.ErrRange},
		{spans(span(0, 0, nil)), api.ErrForm},
		{spans(span(0, 0, Line{a}), span(2, 0, Line{})), api.ErrForm},
		{spans(span(0, 0, Line{wrong})), api.ErrArg},
		{spans(span(0, 0, Line{a}), span(2, 0, Line{a, a, a, wrong})), api.ErrArg},
	}
}

// anyNumber: an edge, one near it, or any at all.
func anyNumber(chance *rand.Rand) uint64 {
	l := edges()
	switch chance.Intn(3) {
	case 0:
		return l[chance.Intn(len(l))]
	case 1:
		return uint64(chance.Intn(300))
	}
	return chance.Uint64() >> chance.Intn(64)
}

// anyDiff: a difference that nothing is wrong with, by chance.
func anyDiff(chance *rand.Rand) Diff {
	some := Line{a, b, two, left, right}
	d := Diff{Rows: 1 + chance.Intn(1<<(1+chance.Intn(9))), Cols: 1 + chance.Intn(1<<(1+chance.Intn(9)))}
	d.Row, d.Col = chance.Intn(d.Rows), chance.Intn(d.Cols)
	for r := chance.Intn(d.Rows); r < d.Rows && len(d.Spans) < 5; r += 1 + chance.Intn(d.Rows) {
		s := span(r, chance.Intn(d.Cols), nil)
		for range 1 + chance.Intn(min(20, d.Cols-s.Col)) {
			s.Cells = append(s.Cells, some[chance.Intn(len(some))])
		}
		d.Spans = append(d.Spans, s)
	}
	return d
}

// anyFrame: a right frame, by chance.
func anyFrame(chance *rand.Rand) Frame {
	f := framed(anyNumber(chance), anyNumber(chance), anyNumber(chance), anyNumber(chance), anyDiff(chance))
	if f.Num < f.Base {
		f.Num, f.Base = f.Base, f.Num
	}
	if f.Num == f.Base {
		f.Num, f.Base = f.Num|1, f.Num&^1
	}
	return f
}
