package delta_test

import (
	"bytes"
	"math"
	"math/rand"
	"slices"
	"testing"

	"prolepsis/api"
	"prolepsis/delta"
	"prolepsis/diff"
	"prolepsis/grid"
)

// tells: the difference's bytes are these numbers', and tell it.
func tells(t *testing.T, d Diff, numbers ...int) {
	t.Helper()
	want := toldBy(numbers...)
	b, e := delta.Bytes(d)
	if e != api.OK || !bytes.Equal(b, want) {
		t.Errorf("%v: %v, %d, not %v", d, b, e, want)
	}
	parsedAs(t, want, d)
}

// untold: nothing is told of the difference but this error.
func untold(t *testing.T, what string, d Diff, e api.Errno) {
	t.Helper()
	if b, got := delta.Bytes(d); got != e || len(b) > 0 {
		t.Errorf("%s: %v, %d, not %d, of %v", what, b, got, e, d)
	}
}

// P12.1, P12.4: by hand, the chapter's example among them.
func TestBytesByHand(t *testing.T) {
	spans := func(l ...Span) Diff { return made(2, 9, 1, 8, l...) }
	tells(t, made(1, 2, 0, 1, span(0, 0, Line{a})), 1, 2, 0, 1, 1, 0, 0, 1, 1, 1, 0, 97, 0)
	// No spans, and no list of them.
	tells(t, spans(), 2, 9, 1, 8, 0)
	tells(t, made(2, 9, 1, 8), 2, 9, 1, 8, 0)
	tells(t, made(2, 9, 1, 8, []Span{}...), 2, 9, 1, 8, 0)
	tells(t, made(2, 9, 1, 8, make([]Span, 0, 3)...), 2, 9, 1, 8, 0)
	// Each number has its own place.
	tells(t, made(4, 7, 2, 5, span(3, 6, Line{a})), 4, 7, 2, 5, 1, 3, 6, 1, 1, 1, 0, 97, 0)
	// Spans of the first row, of the last one, and of both.
	tells(t, spans(span(0, 8, Line{a})), 2, 9, 1, 8, 1, 0, 8, 1, 1, 1, 0, 97, 0)
	tells(t, spans(span(1, 0, Line{a})), 2, 9, 1, 8, 1, 1, 0, 1, 1, 1, 0, 97, 0)
	tells(t, spans(span(0, 3, Line{a}), span(1, 2, Line{b})), 2, 9, 1, 8, 2, 0, 3, 1, 1, 1, 0, 97, 0, 1, 2, 1, 1, 1, 0, 98, 0)
	// The same cell goes on in the next span, as a run of that one.
	tells(t, spans(span(0, 0, times(9, a)), span(1, 0, times(9, a))), 2, 9, 1, 8, 2, 0, 0, 1, 9, 1, 0, 97, 0, 1, 0, 1, 9, 1, 0, 97, 0)
	// Runs.
	tells(t, spans(span(0, 1, Line{a, a, b, a})), 2, 9, 1, 8, 1, 0, 1, 3, 2, 1, 0, 97, 0, 1, 1, 0, 98, 0, 1, 1, 0, 97, 0)
	tells(t, spans(span(0, 1, Line{a, aI})), 2, 9, 1, 8, 1, 0, 1, 2, 1, 1, 0, 97, 0, 1, 1, 16927, 97, 0)
	// Wide cells, whole ones, their halves, and none that a row may have; marks.
	tells(t, spans(span(0, 7, Line{left, right})), 2, 9, 1, 8, 1, 0, 7, 2, 1, 2, 0, 0x3042, 0, 1, 0, 0)
	tells(t, spans(span(0, 8, Line{left})), 2, 9, 1, 8, 1, 0, 8, 1, 1, 2, 0, 0x3042, 0)
	tells(t, spans(span(0, 0, Line{rest, rest})), 2, 9, 1, 8, 1, 0, 0, 1, 2, 0, 16927)
	tells(t, spans(span(0, 2, Line{leftI, rest})), 2, 9, 1, 8, 1, 0, 2, 2, 1, 2, 16927, 0x3042, 1, 0x301, 1, 0, 16927)
	tells(t, spans(span(0, 2, Line{one, two})), 2, 9, 1, 8, 1, 0, 2, 2, 1, 1, 0, 97, 1, 0x301, 1, 1, 0, 97, 2, 0x301, 0x302)
}

// P12.1, P12.4: each flag and each color of a pen.
func TestBytesOfPens(t *testing.T) {
	for i := range 33 {
		for n, p := range map[int]Pen{i & 31: {Flags: uint8(i & 31)}, i % 17 * 32: {Fore: uint8(i % 17)}, i % 17 * 1024: {Back: uint8(i % 17)}} {
			tells(t, made(1, 1, 0, 0, span(0, 0, Line{{R: 'a', W: 1, Pen: p}})), 1, 1, 0, 0, 1, 0, 0, 1, 1, 1, n, 97, 0)
		}
	}
}

// P12.1, P12.4: the least and the greatest sizes, with the cursor at the first and the last place.
func TestBytesOfSizes(t *testing.T) {
	for _, rows := range []int{1, 2, 127, 128, 129, 511, 512} {
		for _, cols := range []int{1, 2, 127, 128, 129, 511, 512} {
			for _, row := range []int{0, rows / 2, rows - 1} {
				for _, col := range []int{0, cols / 2, cols - 1} {
					tells(t, made(rows, cols, row, col), rows, cols, row, col, 0)
					tells(t, made(rows, cols, 0, 0, span(row, col, Line{a})), rows, cols, 0, 0, 1, row, col, 1, 1, 1, 0, 97, 0)
				}
			}
		}
	}
}

// P12.1, P12.4: many spans, up to 512 of them, of one cell, of 512, of one run and of many.
func TestBytesOfMany(t *testing.T) {
	for _, n := range []int{1, 2, 127, 128, 129, 511, 512} {
		for _, d := range []Diff{
			spanEach(n, 1, 0, Line{a}),
			spanEach(n, 512, 511, Line{rest}),
			spanEach(n, 512, 0, times(512, two)),
			spanEach(1, n, 0, inTurn(n, a, leftI)),
			spanEach(2, n, 0, times(n, blank)),
		} {
			d.Row, d.Col = d.Rows-1, d.Cols-1
			tells(t, d, numbersOf(d)...)
		}
	}
	all := spanEach(512, 512, 0, inTurn(512, two, leftI))
	tells(t, all, numbersOf(all)...)
	// A row has a span at most, so that there aren't 513 of them.
	untold(t, "a row too many", made(512, 1, 0, 0, append(spanEach(512, 1, 0, Line{a}).Spans, span(512, 0, Line{a}))...), api.ErrRange)
	untold(t, "a row doubled", made(512, 1, 0, 0, append(spanEach(512, 1, 0, Line{a}).Spans, span(511, 0, Line{a}))...), api.ErrOrder)
	untold(t, "rows too many", spanEach(513, 1, 0, Line{a}), api.ErrSize)
	untold(t, "cells too many", spanEach(1, 512, 0, times(513, a)), api.ErrRange)
	untold(t, "wrong cells too many", spanEach(1, 512, 0, times(513, wrongCells()[0])), api.ErrRange)
}

// P12.1: what Check tells, each of it.
func TestBytesOfWrongDifferences(t *testing.T) {
	spans := func(l ...Span) Diff { return made(3, 4, 0, 0, l...) }
	for _, n := range []int{math.MinInt, -513, -512, -1, 0, 513, 514, 1 << 32, 1<<32 + 1, math.MaxInt} {
		untold(t, "rows", made(n, 1, 0, 0), api.ErrSize)
		untold(t, "columns", made(1, n, 0, 0), api.ErrSize)
	}
	for _, n := range []int{math.MinInt, -513, -1, 4, 5, 512, 513, 1 << 32, math.MaxInt} {
		untold(t, "the cursor's row", made(3, 4, n, 0), api.ErrRange)
		untold(t, "the cursor's column", made(3, 4, 0, n), api.ErrRange)
		untold(t, "a row", spans(span(n, 0, Line{a})), api.ErrRange)
		untold(t, "a column", spans(span(0, n, Line{a})), api.ErrRange)
		untold(t, "a column, no cells", spans(span(0, n, nil)), api.ErrRange)
	}
	untold(t, "the zero one", Diff{}, api.ErrSize)
	untold(t, "the cursor's row", made(3, 4, 3, 0), api.ErrRange)
	untold(t, "a row", spans(span(3, 0, Line{a})), api.ErrRange)
	untold(t, "the same row", spans(span(1, 0, Line{a}), span(1, 3, Line{a})), api.ErrOrder)
	untold(t, "a row below", spans(span(1, 0, Line{a}), span(0, 0, Line{a})), api.ErrOrder)
	untold(t, "a later row", spans(span(0, 0, Line{a}), span(1, 0, Line{a}), span(1, 0, Line{a})), api.ErrOrder)
	untold(t, "cells beyond", spans(span(0, 3, Line{a, b})), api.ErrRange)
	untold(t, "cells beyond", spans(span(0, 0, times(5, a))), api.ErrRange)
	untold(t, "cells beyond, later", spans(span(0, 3, Line{a}), span(2, 1, times(4, a))), api.ErrRange)
	untold(t, "no cells", spans(span(0, 0, nil)), api.ErrForm)
	untold(t, "an empty list", spans(span(0, 0, Line{})), api.ErrForm)
	untold(t, "no cells, later", spans(span(0, 0, Line{a}), span(1, 0, Line{})), api.ErrForm)
}

// P12.1: cells that aren't right, in the first span, in one amid others, and in the last one.
func TestBytesOfWrongCells(t *testing.T) {
	for _, c := range wrongCells() {
		for i := range 3 {
			for at := range 4 {
				d := spanEach(3, 4, 0, Line{a, two, left, right})
				d.Spans[i].Cells[at] = c
				untold(t, "a cell", d, api.ErrArg)
			}
		}
		untold(t, "the only cell", made(1, 1, 0, 0, span(0, 0, Line{c})), api.ErrArg)
		all := spanEach(512, 512, 0, times(512, a))
		all.Spans[511].Cells[511] = c
		untold(t, "the last cell", all, api.ErrArg)
	}
}

// P12.1: where both hold, Check's error is first, also of a span behind that of the cell.
func TestBytesTellCheckFirst(t *testing.T) {
	for _, c := range wrongCells() {
		for _, x := range []struct {
			d Diff
			e api.Errno
		}{
			{made(0, 2, 0, 0, span(0, 0, Line{c})), api.ErrSize},
			{made(2, 513, 0, 0, span(0, 0, Line{c})), api.ErrSize},
			{made(2, 2, 2, 0, span(0, 0, Line{c})), api.ErrRange},
			{made(2, 2, 0, -1, span(0, 0, Line{c})), api.ErrRange},
			{made(2, 2, 0, 0, span(2, 0, Line{c})), api.ErrRange},
			{made(2, 2, 0, 0, span(0, 1, Line{c, a})), api.ErrRange},
			{made(2, 2, 0, 0, span(0, 0, Line{c}), span(0, 1, Line{a})), api.ErrOrder},
			{made(2, 2, 0, 0, span(0, 0, Line{c}), span(1, 2, Line{a})), api.ErrRange},
			{made(2, 2, 0, 0, span(0, 0, Line{c}), span(1, 1, nil)), api.ErrForm},
			{made(2, 2, 0, 0, span(1, 0, Line{c}), span(1, 0, Line{c})), api.ErrOrder},
			{made(2, 2, 0, 0, span(0, 0, Line{a, c}), span(1, 0, nil)), api.ErrForm},
		} {
			untold(t, "both", x.d, x.e)
		}
	}
}

// P12.1, P12.4: differences by chance, and what a change or two makes of them.
func TestBytesByChance(t *testing.T) {
	chance := rand.New(rand.NewSource(12))
	bad := wrongCells()
	odd := []int{math.MinInt, -1, 0, 1, 2, 511, 512, 513, math.MaxInt}
	for range 6000 {
		d := anyDiff(chance)
		if e := diff.Check(d); e != api.OK {
			t.Fatal(d, e)
		}
		agreesTold(t, d)
		for range 1 + chance.Intn(2) {
			n := odd[chance.Intn(len(odd))]
			*[]*int{&d.Rows, &d.Cols, &d.Row, &d.Col}[chance.Intn(4)] = n
			if chance.Intn(4) > 0 || len(d.Spans) == 0 {
				agreesTold(t, d)
				d = anyDiff(chance)
			}
			if len(d.Spans) == 0 {
				continue
			}
			s := &d.Spans[chance.Intn(len(d.Spans))]
			switch chance.Intn(5) {
			case 0:
				s.Row = n
			case 1:
				s.Col = n
			case 2:
				s.Cells = nil
			case 3:
				s.Cells = append(s.Cells, a)
			case 4:
				if len(s.Cells) > 0 {
					s.Cells[chance.Intn(len(s.Cells))] = bad[chance.Intn(len(bad))]
				}
			}
			agreesTold(t, d)
		}
	}
}

// P12.4: what grids have of one another, told, parsed and applied.
func TestGridsByBytes(t *testing.T) {
	chance := rand.New(rand.NewSource(4))
	was, _ := grid.New(3, 5)
	for range 500 {
		next, _ := was.Fit(1+chance.Intn(6), 1+chance.Intn(9))
		for range chance.Intn(9) {
			next.Put(chance.Intn(next.Rows()), chance.Intn(next.Cols()), allCells()[chance.Intn(8)])
		}
		next.Move(chance.Intn(next.Rows()), chance.Intn(next.Cols()))
		b, e := delta.Bytes(diff.Of(was, next))
		if e != api.OK {
			t.Fatal(e)
		}
		d, e := delta.Parse(b)
		if e != api.OK || !diff.Same(d, diff.Of(was, next)) {
			t.Fatal(d, e)
		}
		made, e := diff.Apply(d, was)
		if e != api.OK || !grid.Same(made, next) {
			t.Fatal(d, e)
		}
		was = next
	}
}

// The zero difference, that nil grids have, is refused as any of no size.
func TestBytesOfNoGrids(t *testing.T) {
	untold(t, "nil grids", diff.Of(nil, nil), api.ErrSize)
	untold(t, "the zero one, with spans", Diff{Spans: []Span{span(0, 0, Line{a})}}, api.ErrSize)
}

// What is handed in stays as it is, its spare room too; what is told is new.
func TestBytesAreNew(t *testing.T) {
	room := append(inTurn(6, a, leftI), times(4, b)...)
	spans := append(make([]Span, 0, 4), span(0, 0, room[:6]), span(1, 1, room[1:5]))
	spare := spans[:4]
	spare[2], spare[3] = span(7, 7, Line{b}), span(8, 8, Line{two})
	d := made(2, 6, 1, 1, spans...)
	want := toldBy(numbersOf(d)...)
	first, e := delta.Bytes(d)
	second, _ := delta.Bytes(d)
	if e != api.OK || !bytes.Equal(first, want) {
		t.Fatal(first, e)
	}
	for i := range first[:cap(first)] {
		first[:cap(first)][i] = 99
	}
	if !bytes.Equal(second, want) {
		t.Error("what is told is shared")
	}
	if third, e := delta.Bytes(d); e != api.OK || !bytes.Equal(third, want) {
		t.Error(third, e)
	}
	if !slices.Equal(room, append(inTurn(6, a, leftI), times(4, b)...)) {
		t.Error("the cells that were handed in have changed")
	}
	other := []Span{span(0, 0, room[:6]), span(1, 1, room[1:5]), span(7, 7, Line{b}), span(8, 8, Line{two})}
	if !diff.Same(Diff{Spans: spare}, Diff{Spans: other}) {
		t.Error("the spans that were handed in have changed")
	}
	for i := range room {
		room[i] = b
	}
	if !bytes.Equal(second, want) {
		t.Error("the cells that were handed in are kept")
	}
}

// P2: the same differences have the same bytes, whatever was asked in between.
func TestBytesAgain(t *testing.T) {
	chance := rand.New(rand.NewSource(2))
	for range 200 {
		d := anyDiff(chance)
		b, e := delta.Bytes(d)
		delta.Bytes(Diff{})
		delta.Bytes(anyDiff(chance))
		delta.Parse(b[:len(b)/2])
		again, f := delta.Bytes(cloneDiff(d))
		if e != f || !bytes.Equal(b, again) {
			t.Fatal(d, b, e, again, f)
		}
	}
}
