package runs_test

import (
	"bytes"
	"slices"
	"testing"

	"prolepsis/api"
	"prolepsis/cell"
	"prolepsis/pen"
	"prolepsis/runs"
)

// tells: the cells' bytes are these numbers', and tell the cells.
func tells(t *testing.T, l Line, numbers ...int) {
	t.Helper()
	want := toldBy(numbers...)
	b, e := runs.Bytes(l)
	if e != api.OK || !bytes.Equal(b, want) {
		t.Errorf("%v: %v, %d, not %v", l, b, e, want)
	}
	if n := runs.Count(l); n != numbers[0] {
		t.Errorf("%v: %d runs, not %d", l, n, numbers[0])
	}
	k, e := runs.Parse(want)
	if e != api.OK || !slices.Equal(k, l) {
		t.Errorf("%v: %v, %d, not %v", want, k, e, l)
	}
}

// P10.1: by hand, the chapter's examples among them.
func TestBytesByHand(t *testing.T) {
	blank := cell.Blank(pen.Pen{})
	a, b := Cell{R: 'a', W: 1}, Cell{R: 'b', W: 1}
	wide := Cell{R: 0x3042, W: 2, Pen: bold}
	tells(t, nil, 0)
	tells(t, Line{}, 0)
	tells(t, times(3, blank), 1, 3, 1, 0, 32, 0)
	tells(t, Line{blank}, 1, 1, 1, 0, 32, 0)
	tells(t, Line{a}, 1, 1, 1, 0, 97, 0)
	tells(t, Line{a, b}, 2, 1, 1, 0, 97, 0, 1, 1, 0, 98, 0)
	tells(t, Line{a, a, b, b, b}, 2, 2, 1, 0, 97, 0, 3, 1, 0, 98, 0)
	// The same cell, in two runs that stand apart.
	tells(t, Line{a, b, a}, 3, 1, 1, 0, 97, 0, 1, 1, 0, 98, 0, 1, 1, 0, 97, 0)
	tells(t, Line{a, a, b, a, a}, 3, 2, 1, 0, 97, 0, 1, 1, 0, 98, 0, 2, 1, 0, 97, 0)
	// Each kind: both halves of a wide one are runs, each of its own.
	tells(t, Line{wide, cell.Rest(wide)}, 2, 1, 2, 1, 0x3042, 0, 1, 0, 1)
	tells(t, Line{{}}, 1, 1, 0, 0)
	tells(t, times(4, Cell{Pen: dye}), 1, 4, 0, 31+32*16+1024*16)
	tells(t, Line{wide, wide, cell.Rest(wide)}, 2, 2, 2, 1, 0x3042, 0, 1, 0, 1)
	// Marks.
	tells(t, Line{{R: 'a', M: [2]rune{0x301}, W: 1}}, 1, 1, 1, 0, 97, 1, 0x301)
	tells(t, Line{{R: 'a', M: [2]rune{0x301, 0xfe0f}, W: 1}}, 1, 1, 1, 0, 97, 2, 0x301, 0xfe0f)
	tells(t, Line{{R: 'a', M: [2]rune{0x301, 0x301}, W: 1}}, 1, 1, 1, 0, 97, 2, 0x301, 0x301)
	tells(t, Line{{R: 0x1f600, M: [2]rune{0x200b}, W: 2}}, 1, 1, 2, 0, 0x1f600, 1, 0x200b)
	// What differs in its pen or its marks alone is another cell.
	tells(t, Line{a, cell.With(a, bold)}, 2, 1, 1, 0, 97, 0, 1, 1, 1, 97, 0)
	tells(t, Line{a, {R: 'a', M: [2]rune{0x301}, W: 1}}, 2, 1, 1, 0, 97, 0, 1, 1, 0, 97, 1, 0x301)
	// Runes and pens of more bytes than one.
	tells(t, Line{{R: 0x10ffff, W: 1, Pen: dye}}, 1, 1, 1, 16927, 0x10ffff, 0)
	tells(t, Line{{R: '~', W: 1, Pen: Pen{Fore: 4}}}, 1, 1, 1, 128, '~', 0)
	tells(t, Line{{R: 0xa0, W: 1, Pen: Pen{Back: 16}}}, 1, 1, 1, 16384, 0xa0, 0)
}

// P10.1, P10.4: each pen there is, by its number.
func TestBytesOfEachPen(t *testing.T) {
	for n := range 17 * 1024 {
		p, ok := pen.Of(n)
		if !ok {
			continue
		}
		tells(t, Line{{R: 'a', W: 1, Pen: p}, {Pen: p}}, 2, 1, 1, n, 97, 0, 1, 0, n)
	}
}

// P10.1: at the most of cells, and beyond it.
func TestBytesOfMany(t *testing.T) {
	a, b := Cell{R: 'a', W: 1}, Cell{R: 'b', W: 1, Pen: dye}
	for _, n := range []int{127, 128, 129, 511, 512} {
		tells(t, times(n, a), 1, n, 1, 0, 97, 0)
		tells(t, inTurn(n, a, b), numbersOf(inTurn(n, a, b))...)
		tells(t, append(times(n-1, a), b), 2, n-1, 1, 0, 97, 0, 1, 1, 16927, 98, 0)
	}
	for _, l := range []Line{
		times(513, a), inTurn(513, a, b), make(Line, 513), times(1000, b),
		// It is too long ahead of whether its cells are right.
		append(times(512, a), wrongCells()[0]),
		append(Line{wrongCells()[0]}, times(512, a)...),
		times(513, wrongCells()[3]),
	} {
		if got, e := runs.Bytes(l); e != api.ErrLong || len(got) > 0 {
			t.Errorf("%d cells: %v, %d", len(l), got, e)
		}
	}
}

// P10.1: one that isn't right, at each place of several lines.
func TestBytesOfWrongCells(t *testing.T) {
	var lines []Line
	for _, c := range rightCells() {
		lines = append(lines, times(3, c))
	}
	lines = append(lines, nil, Line{{}}, rightCells(), times(511, Cell{R: 'a', W: 1}))
	for _, c := range wrongCells() {
		if cell.Right(c) {
			t.Fatalf("%v is right", c)
		}
		for _, l := range lines {
			for _, at := range []int{0, len(l) / 2, len(l)} {
				with := slices.Insert(slices.Clone(l), at, c)
				if b, e := runs.Bytes(with); e != api.ErrArg || len(b) > 0 {
					t.Errorf("%v at %d of %d: %v, %d", c, at, len(with), b, e)
				}
			}
		}
		if b, e := runs.Bytes(times(512, c)); e != api.ErrArg || len(b) > 0 {
			t.Errorf("512 of %v: %v, %d", c, b, e)
		}
	}
}

// P10.1: Count, of cells that are right and of others, however many.
func TestCount(t *testing.T) {
	a, b := Cell{R: 'a', W: 1}, Cell{R: 'b', W: 1}
	x, y := Cell{R: -1, W: 9, Pen: wrong}, Cell{R: -1, W: 9}
	for _, c := range []struct {
		l    Line
		want int
	}{
		{nil, 0}, {Line{}, 0}, {Line{a}, 1}, {Line{x}, 1}, {Line{a, a}, 1}, {Line{a, b}, 2}, {Line{a, b, a}, 3},
		{Line{x, x, x}, 1}, {Line{x, y}, 2}, {Line{x, y, y, x}, 3}, {Line{a, x, x, a}, 3}, {make(Line, 9), 1},
		{times(512, a), 1}, {times(513, a), 1}, {times(100000, x), 1}, {inTurn(512, a, b), 512}, {inTurn(513, a, b), 513}, {inTurn(100000, x, y), 100000},
	} {
		if n := runs.Count(c.l); n != c.want {
			t.Errorf("%d cells: %d runs, not %d", len(c.l), n, c.want)
		}
	}
	all := append(rightCells(), wrongCells()...)
	if n := runs.Count(all); n != len(all) {
		t.Errorf("%d runs, not %d", n, len(all))
	}
}

// P10.1, P10.3, P10.4: all short lines of all kinds of right cells.
func TestShortLines(t *testing.T) {
	eachLine(rightCells(), 3, func(l Line) {
		tells(t, l, numbersOf(l)...)
	})
	eachLine(rightCells()[:3], 7, func(l Line) {
		tells(t, l, numbersOf(l)...)
	})
}

// eachLine goes through all lines of up to so many cells of some.
func eachLine(some Line, most int, f func(l Line)) {
	var further func(l Line)
	further = func(l Line) {
		f(l)
		if len(l) == most {
			return
		}
		for _, c := range some {
			further(append(slices.Clone(l), c))
		}
	}
	further(nil)
}

// P1: Count and Bytes of all short lines with cells that aren't right.
func TestShortLinesOfAll(t *testing.T) {
	eachLine(append(rightCells(), wrongCells()...), 2, func(l Line) {
		if n := runs.Count(l); n != changes(l) {
			t.Errorf("%v: %d runs, not %d", l, n, changes(l))
		}
		right := true
		for _, c := range l {
			right = right && cell.Right(c)
		}
		b, e := runs.Bytes(l)
		if right != (e == api.OK) || right != (len(b) > 0) || !right && e != api.ErrArg {
			t.Errorf("%v: %v, %d", l, b, e)
		}
	})
}

// What is handed in stays as it is, its spare room too; what is told is new.
func TestBytesAreNew(t *testing.T) {
	room := append(rightCells(), wrongCells()...)
	before := slices.Clone(room)
	l := room[:len(rightCells())]
	first, e := runs.Bytes(l)
	if e != api.OK || runs.Count(l) != len(l) {
		t.Fatal(e)
	}
	want := slices.Clone(first)
	second, _ := runs.Bytes(l)
	for i := range first[:cap(first)] {
		first[:cap(first)][i] = 'X'
	}
	third, _ := runs.Bytes(l)
	if !bytes.Equal(second, want) || !bytes.Equal(third, want) {
		t.Error("bytes share memory")
	}
	runs.Bytes(room)
	runs.Count(room)
	if !slices.Equal(room, before) {
		t.Error("the cells that were handed in have changed")
	}
}
