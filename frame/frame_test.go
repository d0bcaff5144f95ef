package frame_test

import (
	"bytes"
	"math"
	"math/rand"
	"slices"
	"testing"

	"prolepsis/api"
	"prolepsis/diff"
	"prolepsis/frame"
	"prolepsis/grid"
)

// tells: the frame's bytes are just these, and tell it.
func tells(t *testing.T, f Frame, want []byte) {
	t.Helper()
	b, e := frame.Bytes(f)
	if e != api.OK || !bytes.Equal(b, want) || frame.Check(f) != api.OK {
		t.Errorf("%v: %v, %d, checked %d, not %v", f, b, e, frame.Check(f), want)
	}
	if g, e := frame.Parse(want); e != api.OK || !alike(g, f) {
		t.Errorf("%v: parsed as %v, %d, not %v", want, g, e, f)
	}
}

// untold: nothing is told of the frame but this error.
func untold(t *testing.T, f Frame, e api.Errno) {
	t.Helper()
	if b, got := frame.Bytes(f); got != e || len(b) > 0 || frame.Check(f) != e {
		t.Errorf("%v: %d bytes, %d, checked %d, not %d", f, len(b), got, frame.Check(f), e)
	}
}

// P13.1, P13.3: by hand, the chapter's example first.
func TestBytesByHand(t *testing.T) {
	tells(t, framed(1, 0, 2, 0, small()), []byte{'F', 1, 0, 2, 0, 1, 1, 0, 0, 0})
	tells(t, framed(1, 0, 2, 0, made(1, 1, 0, 0, []Span{}...)), []byte{'F', 1, 0, 2, 0, 1, 1, 0, 0, 0})
	// Each number has its own place.
	tells(t, framed(9, 8, 7, 6, made(5, 4, 3, 2)), []byte{'F', 9, 8, 7, 6, 5, 4, 3, 2, 0})
	tells(t, framed(9, 2, 11, 14, made(5, 4, 3, 2)), []byte{'F', 9, 2, 11, 14, 5, 4, 3, 2, 0})
	tells(t, framed(300, 128, 16384, 127, small()), []byte{'F', 172, 2, 128, 1, 128, 128, 1, 127, 1, 1, 0, 0, 0})
	greatest := slices.Concat(bytes.Repeat([]byte{255}, 9), []byte{1})
	tells(t, framed(top, 0, top, top, small()), slices.Concat([]byte{'F'}, greatest, []byte{0}, greatest, greatest, []byte{1, 1, 0, 0, 0}))
	// One span, and several.
	tells(t, framed(1, 0, 0, 0, made(1, 2, 0, 1, span(0, 0, Line{a}))), []byte{'F', 1, 0, 0, 0, 1, 2, 0, 1, 1, 0, 0, 1, 1, 1, 0, 97, 0})
	tells(t, framed(2, 1, 0, 5, made(3, 4, 2, 3, span(0, 1, Line{a, a, b}), span(2, 2, Line{left, right}))),
		[]byte{'F', 2, 1, 0, 5, 3, 4, 2, 3, 2, 0, 1, 2, 2, 1, 0, 97, 0, 1, 1, 0, 98, 0, 2, 2, 2, 1, 2, 0, 0xc2, 0x60, 0, 1, 0, 0})
	// Cells that no row may have are told too.
	tells(t, framed(1, 0, 0, 0, made(1, 1, 0, 0, span(0, 0, Line{left}))), []byte{'F', 1, 0, 0, 0, 1, 1, 0, 0, 1, 0, 0, 1, 1, 2, 0, 0xc2, 0x60, 0})
}

// P13.1: a number above the base by one, by many; the same; below.
func TestNumAndBase(t *testing.T) {
	for _, n := range edges() {
		for _, base := range edges() {
			f := framed(n, base, 3, 4, small())
			if n > base {
				tells(t, f, append(behindF(n, base, 3, 4), 1, 1, 0, 0, 0))
			} else {
				untold(t, f, api.ErrOrder)
			}
		}
		if n < top {
			tells(t, framed(n+1, n, 3, 4, small()), append(behindF(n+1, n, 3, 4), 1, 1, 0, 0, 0))
			untold(t, framed(n, n+1, 3, 4, small()), api.ErrOrder)
		}
		untold(t, framed(n, n, 3, 4, small()), api.ErrOrder)
	}
}

// P13.1: whatever the echo and the stamp.
func TestEchoAndStamp(t *testing.T) {
	for _, echo := range edges() {
		for _, stamp := range edges() {
			tells(t, framed(7, 6, echo, stamp, small()), append(behindF(7, 6, echo, stamp), 1, 1, 0, 0, 0))
			untold(t, framed(6, 6, echo, stamp, small()), api.ErrOrder)
			untold(t, framed(7, 6, echo, stamp, Diff{}), api.ErrSize)
		}
	}
}

// P13.1: each error of a difference, alone, and where the number isn't above the base either.
func TestWrongDifferences(t *testing.T) {
	for _, x := range wrongDiffs() {
		for _, n := range []uint64{1, 2, top} {
			untold(t, framed(n, n-1, 2, 3, x.d), x.e)
			untold(t, framed(n, 0, 0, 0, x.d), x.e)
			untold(t, framed(n, n, 2, 3, x.d), api.ErrOrder)
			untold(t, framed(n-1, n, 2, 3, x.d), api.ErrOrder)
			untold(t, framed(0, n, top, top, x.d), api.ErrOrder)
		}
	}
	untold(t, Frame{}, api.ErrOrder)
}

// P13.1: of two of a difference's errors the one that chapters 11 and 12 name first.
func TestWrongDifferencesFirst(t *testing.T) {
	for _, x := range []wrongDiff{
		{made(0, 1, 5, 5, span(0, 0, Line{wrong})), api.ErrSize},
		{made(2, 2, 2, 0, span(0, 0, nil)), api.ErrRange},
		{made(2, 2, 0, 0, span(0, 0, Line{wrong}), span(0, 0, Line{a})), api.ErrOrder},
		{made(2, 2, 0, 0, span(0, 0, Line{wrong}), span(1, 1, Line{a, a})), api.ErrRange},
		{made(2, 2, 0, 0, span(0, 0, Line{wrong}), span(1, 1, nil)), api.ErrForm},
	} {
		untold(t, framed(2, 1, 0, 0, x.d), x.e)
		untold(t, framed(1, 1, 0, 0, x.d), api.ErrOrder)
	}
}

// P13.1, P13.3: frames of about 65536 bytes.
func TestLongFrames(t *testing.T) {
	for _, n := range []int{65535, 65536} {
		f := sized(t, n)
		tells(t, f, whole(f))
	}
	for _, n := range []int{65537, 65538, 65600, 131072} {
		f := sized(t, n)
		untold(t, f, api.ErrLong)
		// The errors that are named ahead.
		f.Base = f.Num
		untold(t, f, api.ErrOrder)
		f.Base = 0
		f.Diff.Row = 512
		untold(t, f, api.ErrRange)
		f.Diff.Row = 0
		f.Diff.Spans[len(f.Diff.Spans)-1].Cells[0] = wrong
		untold(t, f, api.ErrArg)
		f.Diff.Spans[len(f.Diff.Spans)-1].Cells = nil
		untold(t, f, api.ErrForm)
		f.Base = 2
		untold(t, f, api.ErrOrder)
	}
	// It is one byte of a number that makes a frame too long, whichever number it is.
	f := sized(t, 65534)
	f.Num, f.Base, f.Echo = 1<<20, 99, 98
	tells(t, f, whole(f))
	for i := range 4 {
		g := f
		*[]*uint64{&g.Num, &g.Base, &g.Echo, &g.Stamp}[i] <<= 7
		if len(whole(g)) != 65537 {
			t.Errorf("number %d: %d bytes", i, len(whole(g)))
		}
		untold(t, g, api.ErrLong)
	}
}

// P13.1, P13.3: no spans, one, many; the greatest difference is too long.
func TestBytesOfMany(t *testing.T) {
	for _, n := range []int{0, 1, 2, 127, 128, 511, 512} {
		d := made(512, 512, 511, 511)
		e := d
		for r := range n {
			d.Spans = append(d.Spans, span(r, r, Line{two}))
			e.Spans = append(e.Spans, span(r, 0, times(512, left)))
		}
		for _, d := range []Diff{d, e} {
			f := framed(5, 4, 3, 2, d)
			tells(t, f, whole(f))
			agreesTold(t, f)
		}
	}
	d := made(512, 512, 511, 511)
	for r := range 512 {
		d.Spans = append(d.Spans, span(r, 0, inTurn(512)))
	}
	untold(t, framed(1, 0, 0, 0, d), api.ErrLong)
	d.Spans = append(d.Spans, span(512, 0, Line{a}))
	untold(t, framed(1, 0, 0, 0, d), api.ErrRange)
}

// P13.1, P13.3: frames by chance, and what a change or two makes of them.
func TestBytesByChance(t *testing.T) {
	chance := rand.New(rand.NewSource(13))
	odd := []int{math.MinInt, -1, 0, 1, 511, 512, 513, math.MaxInt}
	for range 4000 {
		f := anyFrame(chance)
		if _, e := told(f); e != api.OK {
			t.Fatal(f, e)
		}
		agreesTold(t, f)
		for range 1 + chance.Intn(3) {
			switch d := &f.Diff; chance.Intn(6) {
			case 0:
				f.Num, f.Base = f.Base, f.Num
			case 1:
				*[]*uint64{&f.Num, &f.Base, &f.Echo, &f.Stamp}[chance.Intn(4)] = anyNumber(chance)
			case 2:
				*[]*int{&d.Rows, &d.Cols, &d.Row, &d.Col}[chance.Intn(4)] = odd[chance.Intn(len(odd))]
			case 3:
				d.Spans = append(d.Spans, span(chance.Intn(9), 0, Line{b}))
			case 4:
				d.Spans = append(d.Spans, span(d.Rows-1, 0, nil))
			case 5:
				f.Diff = wrongDiffs()[chance.Intn(len(wrongDiffs()))].d
			}
			agreesTold(t, f)
		}
	}
}

// P13.1: frames that differ in one number alone, in the difference alone, in nothing.
func TestSame(t *testing.T) {
	full := framed(4, 3, 2, 1, made(9, 8, 7, 6, span(1, 2, Line{a, b}), span(3, 4, Line{two})))
	for _, f := range []Frame{{}, framed(1, 0, 0, 0, small()), full, framed(top, top, top, top, wrongDiffs()[20].d)} {
		if !frame.Same(f, f) || !frame.Same(f, clone(f)) || !frame.Same(clone(f), f) {
			t.Errorf("%v isn't the same", f)
		}
		for i, change := range []func(*Frame){
			func(g *Frame) { g.Num++ },
			func(g *Frame) { g.Num ^= 1 << 63 },
			func(g *Frame) { g.Base++ },
			func(g *Frame) { g.Base ^= 1 << 32 },
			func(g *Frame) { g.Echo++ },
			func(g *Frame) { g.Echo ^= 1 << 63 },
			func(g *Frame) { g.Stamp++ },
			func(g *Frame) { g.Stamp ^= 1 << 63 },
			func(g *Frame) { g.Diff.Rows++ },
			func(g *Frame) { g.Diff.Cols-- },
			func(g *Frame) { g.Diff.Row++ },
			func(g *Frame) { g.Diff.Col-- },
			func(g *Frame) { g.Diff.Spans = append(g.Diff.Spans, Span{}) },
			func(g *Frame) { g.Diff.Spans = append(g.Diff.Spans, span(8, 0, Line{a})) },
		} {
			g := clone(f)
			if change(&g); frame.Same(f, g) || frame.Same(g, f) {
				t.Errorf("change %d of %v is the same", i, f)
			}
		}
	}
	for i, change := range []func(*Frame){
		func(g *Frame) { g.Diff.Spans = nil },
		func(g *Frame) { g.Diff.Spans = g.Diff.Spans[:1] },
		func(g *Frame) { g.Diff.Spans = g.Diff.Spans[1:] },
		func(g *Frame) { slices.Reverse(g.Diff.Spans) },
		func(g *Frame) { g.Diff.Spans[1].Row-- },
		func(g *Frame) { g.Diff.Spans[0].Col++ },
		func(g *Frame) { g.Diff.Spans[0].Cells[1] = a },
		func(g *Frame) { g.Diff.Spans[0].Cells = g.Diff.Spans[0].Cells[:1] },
		func(g *Frame) { g.Diff.Spans[1].Cells = nil },
		func(g *Frame) { g.Diff.Spans[1].Cells[0].Pen.Flags = 30 },
		func(g *Frame) { g.Diff.Spans[1].Cells[0].M[1] = 0 },
		func(g *Frame) { g.Num, g.Base = g.Base, g.Num },
		func(g *Frame) { g.Echo, g.Stamp = g.Stamp, g.Echo },
	} {
		g := clone(full)
		if change(&g); frame.Same(full, g) || frame.Same(g, full) {
			t.Errorf("change %d is the same", i)
		}
	}
}

// P13.1: nil and empty lists are one.
func TestSameOfEmptyLists(t *testing.T) {
	none, empty := framed(1, 0, 0, 0, small()), framed(1, 0, 0, 0, small())
	empty.Diff.Spans = make([]Span, 0, 3)
	if !frame.Same(none, empty) || !frame.Same(empty, none) {
		t.Error("a nil list of spans isn't the same as an empty one")
	}
	none.Diff.Spans, empty.Diff.Spans = []Span{span(0, 0, nil)}, []Span{span(0, 0, Line{})}
	if !frame.Same(none, empty) || !frame.Same(empty, none) {
		t.Error("a nil list of cells isn't the same as an empty one")
	}
	f := framed(1, 0, 0, 0, small())
	f.Diff.Spans = []Span{}
	agreesTold(t, f)
}

// P13.1: Is of nil, of no bytes, of F alone, of other bytes.
func TestIs(t *testing.T) {
	for _, b := range [][]byte{nil, {}, []byte("F")[:0], []byte(" F"), []byte("KF"), {0, 'F'}, {'F' + 128}, {'f', 'F'}} {
		if frame.Is(b) {
			t.Errorf("%q: Is answers true", b)
		}
	}
	for c := range 256 {
		for _, behind := range []string{"", "F", "\x00", "K and more"} {
			if b := append([]byte{byte(c)}, behind...); frame.Is(b) != (c == 'F') {
				t.Errorf("%q: Is answers %v", b, frame.Is(b))
			}
		}
	}
	if long := append([]byte("F"), make([]byte, 70000)...); !frame.Is(long) || frame.Is(long[1:]) {
		t.Error("of many bytes")
	}
}

// P13.3: what grids have of one another, told as frames, parsed and applied, one on the other.
func TestGridsByFrames(t *testing.T) {
	chance := rand.New(rand.NewSource(3))
	was, _ := grid.New(3, 5)
	for n := range uint64(300) {
		next, _ := was.Fit(1+chance.Intn(6), 1+chance.Intn(9))
		for range chance.Intn(9) {
			next.Put(chance.Intn(next.Rows()), chance.Intn(next.Cols()), Line{a, b, two, left}[chance.Intn(4)])
		}
		next.Move(chance.Intn(next.Rows()), chance.Intn(next.Cols()))
		b, e := frame.Bytes(framed(n+1, n, n/2, n*3, diff.Of(was, next)))
		if e != api.OK {
			t.Fatal(e)
		}
		f, e := frame.Parse(b)
		if e != api.OK || f.Num != n+1 || f.Base != n || f.Echo != n/2 || f.Stamp != n*3 {
			t.Fatal(f, e)
		}
		made, e := diff.Apply(f.Diff, was)
		if e != api.OK || !grid.Same(made, next) {
			t.Fatal(f, e)
		}
		was = next
	}
}

// What is handed in stays as it is, its spare room too; what is told is new.
func TestBytesAreNew(t *testing.T) {
	room := append(inTurn(6), times(4, two)...)
	spare := []Span{span(0, 0, room[:6]), span(1, 1, room[1:5]), span(7, 7, Line{b}), span(8, 8, Line{two})}
	f := framed(9, 8, 7, 6, made(2, 6, 1, 1, spare[:2]...))
	want := whole(f)
	first, e := frame.Bytes(f)
	second, _ := frame.Bytes(f)
	if e != api.OK || !bytes.Equal(first, want) {
		t.Fatal(first, e)
	}
	for i := range first[:cap(first)] {
		first[:cap(first)][i] = 99
	}
	if !bytes.Equal(second, want) {
		t.Error("what is told is shared")
	}
	if third, e := frame.Bytes(f); e != api.OK || !bytes.Equal(third, want) {
		t.Error(third, e)
	}
	if !slices.Equal(room, append(inTurn(6), times(4, two)...)) {
		t.Error("the cells that were handed in have changed")
	}
	other := []Span{span(0, 0, room[:6]), span(1, 1, room[1:5]), span(7, 7, Line{b}), span(8, 8, Line{two})}
	if !diff.Same(Diff{Spans: spare}, Diff{Spans: other}) {
		t.Error("the spans that were handed in have changed")
	}
	clear(room)
	if !bytes.Equal(second, want) {
		t.Error("the cells that were handed in are kept")
	}
}

// P2: the same frames have the same bytes, whatever was asked in between.
func TestBytesAgain(t *testing.T) {
	chance := rand.New(rand.NewSource(2))
	for range 300 {
		f := anyFrame(chance)
		b, e := frame.Bytes(f)
		frame.Bytes(Frame{})
		frame.Check(anyFrame(chance))
		frame.Parse(b[:len(b)/2])
		again, x := frame.Bytes(clone(f))
		if e != x || !bytes.Equal(b, again) || frame.Check(f) != e {
			t.Fatal(f, b, e, again, x)
		}
	}
}
