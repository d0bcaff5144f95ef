package line_test

import (
	"math"
	"slices"
	"strings"
	"testing"

	"prolepsis/cell"
	"prolepsis/line"
	"prolepsis/pen"
)

type (
	Cell = cell.Cell
	Line = []cell.Cell
	Pen  = pen.Pen
)

// The pens of the tests: two that are right, and one that isn't.
var (
	ink   = Pen{Flags: 4}
	dye   = Pen{Flags: 31, Fore: 16, Back: 16}
	wrong = Pen{Flags: 32, Fore: 17, Back: 255}
)

// The cells of the tests; small letters are of the pens they are named by.
var (
	blank   = Cell{R: 0x20, W: 1}
	blankI  = Cell{R: 0x20, W: 1, Pen: ink}
	blankD  = Cell{R: 0x20, W: 1, Pen: dye}
	blankW  = Cell{R: 0x20, W: 1, Pen: wrong}
	plain   = Cell{R: 'a', W: 1}
	plainI  = Cell{R: 'b', M: [2]rune{0x301}, W: 1, Pen: ink}
	full    = Cell{R: 'c', M: [2]rune{0x301, 0x302}, W: 1, Pen: dye}
	left    = Cell{R: 0x3042, W: 2}
	leftI   = Cell{R: 0x3042, W: 2, Pen: ink}
	leftD   = Cell{R: 0x1f600, M: [2]rune{0x301}, W: 2, Pen: dye}
	right   = Cell{}
	rightI  = Cell{Pen: ink}
	rightD  = Cell{Pen: dye}
	wrongA  = Cell{R: 'a', W: 3}                           // of no W
	wrongB  = Cell{R: 'a', W: 2, Pen: ink}                 // a left half of a rune that isn't wide
	wrongC  = Cell{R: 'a', M: [2]rune{0x301, 0}, Pen: ink} // a right half with runes
	wrongD  = Cell{R: 'a', M: [2]rune{0, 0x301}, W: 1}     // a mark behind a 0
	wrongE  = Cell{R: -1, M: [2]rune{-2, 0xd800}, W: 1, Pen: wrong}
	wrongF  = Cell{Pen: wrong}
	wrongG  = Cell{R: 0x3042, W: 2, Pen: wrong}
	wrongH  = Cell{R: 0x3042, W: 1}
	numbers = []int{math.MinInt, math.MinInt + 1, -513, -512, -2, -1, 0, 1, 2, 3, 4, 5, 6, 7, 511, 512, 513, 600, 1024, math.MaxInt32, math.MaxInt - 1, math.MaxInt}
	runes   = []rune{0x301, 0x302, 0xfe0f, 0x200b, 'a', ' ', 0x3042, 0, 7, -1, 0xd800, 0x110000, 0x1000301, math.MinInt32, math.MaxInt32}
)

func rightCells() []Cell {
	return []Cell{blank, blankI, plainI, full, left, leftI, leftD, right, rightI, rightD}
}

func wrongCells() []Cell {
	return []Cell{wrongA, wrongB, wrongC, wrongD, wrongE, wrongF, wrongG, wrongH}
}

func allCells() []Cell { return append(rightCells(), wrongCells()...) }

func allPens() []Pen { return []Pen{{}, ink, dye, wrong} }

// eachLine goes through all lines of up to so many cells of some.
func eachLine(some []Cell, most int, f func(l Line)) {
	var further func(l Line)
	further = func(l Line) {
		f(l)
		if len(l) == most {
			return
		}
		for _, c := range some {
			further(append(slices.Clone(l), c))
		}
	}
	further(nil)
}

// mended: what the chapter says of a line, mended: each cell, by those beside it in the line as it was.
func mended(l Line) Line {
	var made Line
	for i, c := range l {
		hasLeft := i > 0 && l[i-1].W == 2
		hasRight := i < len(l)-1 && l[i+1].W == 0
		if c.W == 2 && !hasRight || c.W == 0 && !hasLeft {
			c = Cell{R: 0x20, W: 1, Pen: c.Pen}
		}
		made = append(made, c)
	}
	return made
}

// rightOne: what the chapter says of a right line.
func rightOne(l Line) bool {
	for i, c := range l {
		if !cell.Right(c) || mended(l)[i] != c {
			return false
		}
		if c.W == 0 && l[i-1].Pen != c.Pen {
			return false
		}
	}
	return true
}

// withCell: what the chapter says of Put.
func withCell(l Line, at int, c Cell) (Line, bool) {
	put := Line{c}
	if c.W == 2 {
		put = append(put, Cell{Pen: c.Pen})
	}
	if !cell.Right(c) || c.W == 0 || at < 0 || at >= len(l) || len(l[at:]) < len(put) {
		return l, false
	}
	return mended(slices.Concat(l[:at], put, l[at:][len(put):])), true
}

// erased: what the chapter says of Erase.
func erased(l Line, from, to int, p Pen) Line {
	l = slices.Clone(l)
	for i := range l {
		if from <= i && i < to {
			l[i] = Cell{R: 0x20, W: 1, Pen: p}
		}
	}
	return mended(l)
}

// fitted: what the chapter says of Fit.
func fitted(l Line, n int) Line {
	var made Line
	for i := 0; i < n && i < 512; i++ {
		if i < len(l) {
			made = append(made, l[i])
		} else {
			made = append(made, blank)
		}
	}
	return mended(made)
}

// marked: what the chapter says of Mark.
func marked(l Line, at int, r rune) (Line, bool) {
	if at < 0 || at >= len(l) {
		return l, false
	}
	if l[at].W == 0 && at > 0 && l[at-1].W == 2 {
		at--
	}
	c, ok := cell.Mark(l[at], r)
	if !ok {
		return l, false
	}
	return slices.Concat(l[:at], Line{c}, l[at+1:]), true
}

// used: what the chapter says of Used.
func used(l Line) int {
	n := 0
	for i, c := range l {
		if c != blank {
			n = i + 1
		}
	}
	return n
}

// textOf: what the chapter says of Text.
func textOf(l Line) string {
	var b strings.Builder
	for _, c := range l {
		for _, r := range cell.Runes(c) {
			b.WriteRune(r) // what is no scalar is written as Broken
		}
	}
	return b.String()
}

// P6.1: so many blanks of the zero pen; the ends of what may be asked for, and beyond them.
func TestNew(t *testing.T) {
	for _, x := range []struct{ n, want int }{
		{math.MinInt, 0}, {-513, 0}, {-1, 0}, {0, 0}, {1, 1}, {4, 4}, {511, 511}, {512, 512}, {513, 512}, {600, 512}, {math.MaxInt, 512},
	} {
		l := line.New(x.n)
		if len(l) != x.want {
			t.Errorf("%d: %d cells", x.n, len(l))
		}
		for i, c := range l {
			if c != blank {
				t.Errorf("%d: %v at %d", x.n, c, i)
			}
		}
	}
}

// P6.1: halves alone at either end, in the middle, beside each other, of pens that differ.
func TestMendByHand(t *testing.T) {
	for _, x := range []struct{ l, want Line }{
		{nil, nil},
		{Line{}, nil},
		{Line{plain}, Line{plain}},
		{Line{left}, Line{blank}},
		{Line{leftI}, Line{blankI}},
		{Line{leftD}, Line{blankD}},
		{Line{right}, Line{blank}},
		{Line{rightI}, Line{blankI}},
		{Line{wrongF}, Line{blankW}},
		{Line{wrongG}, Line{blankW}},
		{Line{left, right}, Line{left, right}},
		{Line{rightI, leftD}, Line{blankI, blankD}},
		{Line{plain, leftI}, Line{plain, blankI}},
		{Line{leftI, plain}, Line{blankI, plain}},
		{Line{rightI, plain}, Line{blankI, plain}},
		{Line{plain, rightI}, Line{plain, blankI}},
		{Line{plain, leftI, full}, Line{plain, blankI, full}},
		{Line{plain, rightI, full}, Line{plain, blankI, full}},
		{Line{plain, leftI, rightI, full}, Line{plain, leftI, rightI, full}},
		{Line{leftI, leftD, rightD}, Line{blankI, leftD, rightD}},
		{Line{leftI, rightI, rightD}, Line{leftI, rightI, blankD}},
		{Line{leftI, leftI, rightI, rightI}, Line{blankI, leftI, rightI, blankI}},
		{Line{left, leftI, leftD}, Line{blank, blankI, blankD}},
		{Line{right, rightI, rightD}, Line{blank, blankI, blankD}},
		{Line{rightD, leftI, rightI, left}, Line{blankD, leftI, rightI, blank}},
		{Line{leftI, rightI, leftD, rightD}, Line{leftI, rightI, leftD, rightD}},
		// Halves of two pens, or of runes that aren't theirs, aren't alone.
		{Line{leftI, rightD}, Line{leftI, rightD}},
		{Line{wrongB, wrongC}, Line{wrongB, wrongC}},
		{Line{wrongB}, Line{blankI}},
		{Line{wrongC}, Line{blankI}},
		// What is of another W is no half.
		{Line{wrongA, right}, Line{wrongA, blank}},
		{Line{left, wrongA}, Line{blank, wrongA}},
		{Line{wrongA, wrongD, wrongE, wrongH}, Line{wrongA, wrongD, wrongE, wrongH}},
		{Line{{W: 255}, rightI, {R: 'x', W: 254}}, Line{{W: 255}, blankI, {R: 'x', W: 254}}},
	} {
		if l := line.Mend(x.l); !slices.Equal(l, x.want) {
			t.Errorf("%v: %v, not %v", x.l, l, x.want)
		}
	}
}

// P6.1: lines that are right, and others, each by one thing alone.
func TestRightByHand(t *testing.T) {
	for _, l := range []Line{
		nil,
		{},
		{blank},
		{plain, plainI, full, blankD},
		{left, right},
		{leftI, rightI},
		{leftD, rightD, leftI, rightI},
		{plain, leftI, rightI, plain},
		line.New(512),
		slices.Repeat(Line{plain, leftI, rightI}, 400),
	} {
		if !line.Right(l) {
			t.Errorf("%v: not right", l)
		}
	}
	for _, l := range []Line{
		{left},
		{right},
		{plain, left},
		{left, plain},
		{right, plain},
		{plain, right},
		{right, left},
		{left, left, right},
		{left, right, right},
		{left, right, left},
		{leftI, right},
		{left, rightI},
		{leftI, rightD},
		{plain, leftI, rightI, leftI, rightD},
		{Cell{R: 'a', W: 1, Pen: wrong}},
		{wrongA},
		{wrongB, rightI},
		{leftI, wrongC},
		{wrongD},
		{wrongE},
		{wrongG, wrongF},
		{wrongH},
		{wrongH, right},
		{plain, plain, wrongD},
		{wrongD, plain, plain},
		{plain, wrongD, plain},
		append(slices.Repeat(Line{leftI, rightI}, 300), left),
	} {
		if line.Right(l) {
			t.Errorf("%v: right", l)
		}
	}
}

// P6.1: the same cell by cell: each field counts, and how many there are.
func TestSame(t *testing.T) {
	base := Line{plainI, leftI, rightI}
	for _, x := range []struct {
		a, b Line
		want bool
	}{
		{nil, nil, true},
		{nil, Line{}, true},
		{nil, Line{right}, false},
		{Line{}, Line{blank}, false},
		{base, Line{plainI, leftI, rightI}, true},
		{base, Line{plainI, leftI}, false},
		{base, Line{plainI, leftI, rightI, blank}, false},
		{base, Line{plainI, leftI, rightI, right}, false},
		{base, Line{leftI, rightI, plainI}, false},
		{base, Line{plainI, leftI, right}, false},
		{base, Line{plain, leftI, rightI}, false},
		{Line{wrongE}, Line{wrongE}, true},
		{Line{{R: 'a', W: 1}}, Line{{R: 'b', W: 1}}, false},
		{Line{{R: 'a', W: 1}}, Line{{R: 'a', W: 2}}, false},
		{Line{{R: 'a', W: 1}}, Line{{R: 'a', W: 1, M: [2]rune{0x301}}}, false},
		{Line{{R: 'a', W: 1, M: [2]rune{1, 2}}}, Line{{R: 'a', W: 1, M: [2]rune{1, 3}}}, false},
		{Line{{R: 'a', W: 1}}, Line{{R: 'a', W: 1, Pen: Pen{Flags: 1}}}, false},
		{Line{{R: 'a', W: 1}}, Line{{R: 'a', W: 1, Pen: Pen{Fore: 1}}}, false},
		{Line{{R: 'a', W: 1}}, Line{{R: 'a', W: 1, Pen: Pen{Back: 1}}}, false},
		{line.New(512), line.New(600), true},
		{line.New(511), line.New(512), false},
	} {
		if line.Same(x.a, x.b) != x.want || line.Same(x.b, x.a) != x.want {
			t.Errorf("%v, %v: not %v", x.a, x.b, x.want)
		}
	}
}

// P6.2: Put where there is room.
func TestPutByHand(t *testing.T) {
	for _, x := range []struct {
		l    Line
		at   int
		c    Cell
		want Line
	}{
		{Line{blank}, 0, plainI, Line{plainI}},
		{Line{blank, blank, blank, blank}, 1, leftI, Line{blank, leftI, rightI, blank}},
		{Line{blank, leftI, rightI, blank}, 2, plain, Line{blank, blankI, plain, blank}},
		{Line{blank, leftI, rightI, blank}, 1, plain, Line{blank, plain, blankI, blank}},
		{Line{blank, leftI, rightI, blank}, 0, leftD, Line{leftD, rightD, blankI, blank}},
		{Line{blank, leftI, rightI, blank}, 1, leftD, Line{blank, leftD, rightD, blank}},
		{Line{blank, leftI, rightI, blank}, 2, leftD, Line{blank, blankI, leftD, rightD}},
		{Line{blank, leftI, rightI, blank}, 3, full, Line{blank, leftI, rightI, full}},
		{Line{leftI, rightI, leftD, rightD}, 1, left, Line{blankI, left, right, blankD}},
		{Line{plain, plain, plain}, 2, plainI, Line{plain, plain, plainI}},
		{Line{plain, plain, plain}, 1, leftI, Line{plain, leftI, rightI}},
		{Line{plain, plain}, 0, leftD, Line{leftD, rightD}},
		// The whole line is mended, not just what is beside the cell.
		{Line{rightI, blank, blank, blank, leftD}, 2, plain, Line{blankI, blank, plain, blank, blankD}},
		{Line{rightI, rightI, leftD, leftD}, 0, left, Line{left, right, blankD, blankD}},
		// What isn't right, and is no half that is alone, stays.
		{Line{wrongA, wrongD, leftI, rightD, plain}, 4, full, Line{wrongA, wrongD, leftI, rightD, full}},
		// A right half that was alone finds a left one by no put: its place is the Rest's.
		{Line{plain, rightI, rightI}, 0, leftD, Line{leftD, rightD, blankI}},
	} {
		if l, ok := line.Put(x.l, x.at, x.c); !ok || !slices.Equal(l, x.want) {
			t.Errorf("%v at %d of %v: %v, %v, not %v", x.c, x.at, x.l, l, ok, x.want)
		}
	}
}

// P6.2: Put where there is no room, and of what may not be put: the line is told as it is, not mended.
func TestPutRefused(t *testing.T) {
	for _, l := range []Line{nil, {}, {plain}, {leftI, rightI}, {rightI, leftD}, {left, left, right, right}, {wrongA, wrongF, plain}, line.New(512)} {
		n := len(l)
		for _, at := range []int{math.MinInt, -512, -2, -1, n, n + 1, n + 512, math.MaxInt - 1, math.MaxInt} {
			for _, c := range allCells() {
				if m, ok := line.Put(l, at, c); ok || !slices.Equal(m, l) {
					t.Errorf("%v at %d of %d cells: %v, %v", c, at, n, m, ok)
				}
			}
		}
		for _, c := range []Cell{left, leftI, leftD} {
			if m, ok := line.Put(l, n-1, c); ok || !slices.Equal(m, l) {
				t.Errorf("%v at the last of %d cells: %v, %v", c, n, m, ok)
			}
		}
		for at := range n {
			for _, c := range append(wrongCells(), right, rightI, rightD, Cell{R: 'a', W: 1, Pen: wrong}, Cell{R: 7, W: 1}, Cell{R: 'a', W: 255}) {
				if m, ok := line.Put(l, at, c); ok || !slices.Equal(m, l) {
					t.Errorf("%v at %d of %d cells: %v, %v", c, at, n, m, ok)
				}
			}
		}
	}
}

// P6.2: Erase, with places in either order, below 0, above the length, and through wide ones.
func TestEraseByHand(t *testing.T) {
	l := Line{plain, leftI, rightI, full}
	for _, x := range []struct {
		l        Line
		from, to int
		p        Pen
		want     Line
	}{
		{nil, 0, 0, ink, nil},
		{nil, -1, 1, ink, nil},
		{l, 0, 0, dye, l},
		{l, 2, 2, dye, l},
		{l, 4, 4, dye, l},
		{l, 3, 1, dye, l},
		{l, 4, 0, dye, l},
		{l, math.MaxInt, math.MinInt, dye, l},
		{l, -5, -1, dye, l},
		{l, -5, 0, dye, l},
		{l, 4, 9, dye, l},
		{l, 5, 9, dye, l},
		{l, 0, 1, dye, Line{blankD, leftI, rightI, full}},
		{l, -1, 1, dye, Line{blankD, leftI, rightI, full}},
		{l, 3, 4, Pen{}, Line{plain, leftI, rightI, blank}},
		{l, 3, 5, Pen{}, Line{plain, leftI, rightI, blank}},
		{l, 0, 2, dye, Line{blankD, blankD, blankI, full}},
		{l, 1, 2, dye, Line{plain, blankD, blankI, full}},
		{l, 2, 3, dye, Line{plain, blankI, blankD, full}},
		{l, 2, 4, dye, Line{plain, blankI, blankD, blankD}},
		{l, 1, 3, dye, Line{plain, blankD, blankD, full}},
		{l, 0, 4, dye, Line{blankD, blankD, blankD, blankD}},
		{l, math.MinInt, math.MaxInt, ink, Line{blankI, blankI, blankI, blankI}},
		{l, 1, 2, wrong, Line{plain, blankW, blankI, full}},
		{Line{leftI, rightI, leftD, rightD}, 1, 3, Pen{}, Line{blankI, blank, blank, blankD}},
		// Mended, though nothing is erased, or elsewhere.
		{Line{rightI, plain, leftD}, 2, 1, Pen{}, Line{blankI, plain, blankD}},
		{Line{rightI, plain, leftD}, 1, 2, Pen{}, Line{blankI, blank, blankD}},
		{Line{rightI, plain, leftD}, 9, 12, Pen{}, Line{blankI, plain, blankD}},
		{Line{wrongA, leftI, rightD, wrongD}, 3, 4, Pen{}, Line{wrongA, leftI, rightD, blank}},
	} {
		if m := line.Erase(x.l, x.from, x.to, x.p); !slices.Equal(m, x.want) {
			t.Errorf("%v from %d to %d by %v: %v, not %v", x.l, x.from, x.to, x.p, m, x.want)
		}
	}
}

// P6.2: Fit, shorter, as long and longer, and through a wide one.
func TestFitByHand(t *testing.T) {
	l := Line{plain, leftI, rightI, full}
	for _, x := range []struct {
		l    Line
		n    int
		want Line
	}{
		{nil, 0, nil},
		{nil, 2, Line{blank, blank}},
		{l, math.MinInt, nil},
		{l, -1, nil},
		{l, 0, nil},
		{l, 1, Line{plain}},
		{l, 2, Line{plain, blankI}},
		{l, 3, Line{plain, leftI, rightI}},
		{l, 4, l},
		{l, 5, Line{plain, leftI, rightI, full, blank}},
		{l, 7, Line{plain, leftI, rightI, full, blank, blank, blank}},
		// Mended, whatever the length.
		{Line{rightI, leftD}, 1, Line{blankI}},
		{Line{rightI, leftD}, 2, Line{blankI, blankD}},
		{Line{rightI, leftD}, 3, Line{blankI, blankD, blank}},
		{Line{wrongA, leftI, rightD, wrongD}, 3, Line{wrongA, leftI, rightD}},
	} {
		if m := line.Fit(x.l, x.n); !slices.Equal(m, x.want) {
			t.Errorf("%v by %d: %v, not %v", x.l, x.n, m, x.want)
		}
	}
}

// P6.2: Fit about MaxSide, of lines shorter and longer than that.
func TestFitOfLongLines(t *testing.T) {
	for _, l := range []Line{nil, {plain}, slices.Repeat(Line{plain, leftI, rightI}, 171), slices.Repeat(Line{leftI, rightI}, 256), slices.Repeat(Line{leftI, rightI, full}, 400)} {
		for _, n := range numbers {
			want := fitted(l, n)
			if m := line.Fit(l, n); !slices.Equal(m, want) {
				t.Errorf("%d cells by %d: %v, not %v", len(l), n, m, want)
			}
		}
	}
	// 512 and one cells, of which the last two are a wide one.
	l := append(slices.Repeat(Line{plain}, 511), leftI, rightI)
	if m := line.Fit(l, 600); len(m) != 512 || m[511] != blankI || m[510] != plain {
		t.Errorf("%d cells, %v", len(m), m[510:])
	}
}

// P6.2: Mark, of cells of each kind, and where there is none.
func TestMarkByHand(t *testing.T) {
	once, twice := leftI, leftD
	once.M[0], twice.M[1] = 0x301, 0x302
	for _, x := range []struct {
		l    Line
		at   int
		r    rune
		want Line
	}{
		{Line{blank}, 0, 0x301, Line{{R: ' ', M: [2]rune{0x301}, W: 1}}},
		{Line{plain, blankI}, 1, 0xfe0f, Line{plain, {R: ' ', M: [2]rune{0xfe0f}, W: 1, Pen: ink}}},
		{Line{plainI}, 0, 0x302, Line{{R: 'b', M: [2]rune{0x301, 0x302}, W: 1, Pen: ink}}},
		{Line{plain, leftI, rightI, plain}, 1, 0x301, Line{plain, once, rightI, plain}},
		{Line{plain, leftI, rightI, plain}, 2, 0x301, Line{plain, once, rightI, plain}},
		{Line{leftD, rightD}, 0, 0x302, Line{twice, rightD}},
		{Line{leftD, rightD}, 1, 0x302, Line{twice, rightD}},
		// Halves of two pens are halves of one all the same.
		{Line{leftI, rightD}, 1, 0x301, Line{once, rightD}},
		{Line{leftI, wrongC}, 1, 0x301, Line{once, wrongC}},
		// A left half that is alone bears a mark; nothing is mended.
		{Line{rightI, leftI}, 1, 0x301, Line{rightI, once}},
		{Line{leftI, leftD, plain, right}, 0, 0x301, Line{once, leftD, plain, right}},
		{Line{leftI, rightI, rightI}, 1, 0x301, Line{once, rightI, rightI}},
		{Line{wrongD}, 0, 0x302, Line{{R: 'a', M: [2]rune{0x302, 0x301}, W: 1}}},
	} {
		if l, ok := line.Mark(x.l, x.at, x.r); !ok || !slices.Equal(l, x.want) {
			t.Errorf("%v at %d by %x: %v, %v, not %v", x.l, x.at, x.r, l, ok, x.want)
		}
	}
}

// P6.2: Mark refused: the line is told as it is, not mended.
func TestMarkRefused(t *testing.T) {
	crowded := Cell{R: 0x3042, M: [2]rune{0x301, 0x302}, W: 2, Pen: ink}
	for _, x := range []struct {
		l  Line
		at int
		r  rune
	}{
		{nil, 0, 0x301},
		{nil, -1, 0x301},
		{Line{plain}, -1, 0x301},
		{Line{plain}, 1, 0x301},
		{Line{plain}, math.MinInt, 0x301},
		{Line{plain}, math.MaxInt, 0x301},
		{Line{leftI, rightI}, 2, 0x301},
		{Line{leftI, rightI}, -1, 0x301},
		{Line{full}, 0, 0x303},
		{Line{crowded, rightI}, 0, 0x303},
		{Line{crowded, rightI}, 1, 0x303},
		{Line{rightI}, 0, 0x301},
		{Line{rightI, leftD}, 0, 0x301},
		{Line{plain, rightI}, 1, 0x301},
		{Line{leftI, rightI, rightD}, 2, 0x301},
		{Line{wrongA}, 0, 0x301},
		{Line{wrongA, right}, 1, 0x301},
		{Line{wrongC}, 0, 0x301},
		{Line{plain}, 0, 'x'},
		{Line{plain}, 0, 0x3042},
		{Line{plain}, 0, 0},
		{Line{plain}, 0, 7},
		{Line{plain}, 0, -1},
		{Line{plain}, 0, 0xd800},
		{Line{plain}, 0, 0x1000301},
		{Line{leftI, rightI}, 1, 'x'},
	} {
		if l, ok := line.Mark(x.l, x.at, x.r); ok || !slices.Equal(l, x.l) {
			t.Errorf("%v at %d by %x: %v, %v", x.l, x.at, x.r, l, ok)
		}
	}
}

// P6.3: up to the last cell that isn't a blank of the zero pen.
func TestUsed(t *testing.T) {
	marked := Cell{R: ' ', M: [2]rune{0x301}, W: 1}
	for _, x := range []struct {
		l    Line
		want int
	}{
		{nil, 0},
		{Line{}, 0},
		{line.New(1), 0},
		{line.New(512), 0},
		{Line{plain}, 1},
		{Line{plain, blank, blank}, 1},
		{Line{blank, blank, plain}, 3},
		{Line{blank, plain, blank, plain, blank}, 4},
		{Line{plain, blankI}, 2},
		{Line{blankI, blank}, 1},
		{Line{blank, blankD, blank}, 2},
		{Line{blankW, blank}, 1},
		{Line{marked, blank}, 1},
		{Line{blank, left, right, blank}, 3},
		{Line{right, blank}, 1},
		{Line{{R: ' ', W: 3}, blank}, 1},
		{Line{{R: ' '}, blank}, 1},
		{Line{wrongE, blank}, 1},
	} {
		if n := line.Used(x.l); n != x.want {
			t.Errorf("%v: %d, not %d", x.l, n, x.want)
		}
	}
}

// P6.3: the runes of all cells, with halves, marks, and cells that aren't right.
func TestText(t *testing.T) {
	for _, x := range []struct {
		l    Line
		want string
	}{
		{nil, ""},
		{Line{}, ""},
		{line.New(3), "   "},
		{Line{plain, blank, plainI, blank}, "a b\u0301 "},
		{Line{full}, "c\u0301\u0302"},
		{Line{blank, leftI, rightI, blank}, " \u3042 "},
		{Line{leftD, rightD}, "\U0001f600\u0301"},
		{Line{leftI, plain}, "\u3042a"},
		{Line{right, rightI}, ""},
		{Line{wrongA, wrongC, plain}, "a"},
		{Line{wrongB, wrongD, wrongH}, "aa\u0301\u3042"},
		{Line{wrongE}, "\ufffd\ufffd\ufffd"},
		{Line{{R: 0xe9, W: 1}, {W: 1}, {R: 0x7f, W: 1}, {R: 0x10ffff, W: 1}, {R: 0x110000, W: 2}}, "\u00e9\x00\x7f\U0010ffff\ufffd"},
	} {
		if s := line.Text(x.l); s != x.want {
			t.Errorf("%v: %q, not %q", x.l, s, x.want)
		}
	}
}

// checkOne: what calls of one line alone say.
func checkOne(t *testing.T, l Line) {
	t.Helper()
	if m := line.Mend(l); !slices.Equal(m, mended(l)) {
		t.Fatalf("%v: mended %v", l, m)
	}
	if ok := line.Right(l); ok != rightOne(l) {
		t.Fatalf("%v: right %v", l, ok)
	}
	if n := line.Used(l); n != used(l) {
		t.Fatalf("%v: used %d", l, n)
	}
	if s := line.Text(l); s != textOf(l) {
		t.Fatalf("%v: text %q", l, s)
	}
	if !line.Same(l, slices.Clone(l)) || line.Same(l, append(slices.Clone(l), blank)) {
		t.Fatalf("%v: the same or not", l)
	}
}

// checkPlaces: what calls of a line say, with each place in it and beside it.
func checkPlaces(t *testing.T, l Line, cells []Cell) {
	t.Helper()
	for at := -1; at <= len(l)+1; at++ {
		for _, c := range cells {
			want, there := withCell(l, at, c)
			if m, ok := line.Put(l, at, c); ok != there || !slices.Equal(m, want) {
				t.Fatalf("%v at %d of %v: %v, %v, not %v, %v", c, at, l, m, ok, want, there)
			}
		}
		for to := -1; to <= len(l)+1; to++ {
			for _, p := range allPens() {
				if m := line.Erase(l, at, to, p); !slices.Equal(m, erased(l, at, to, p)) {
					t.Fatalf("%v from %d to %d by %v: %v", l, at, to, p, m)
				}
			}
		}
		if m := line.Fit(l, at); !slices.Equal(m, fitted(l, at)) {
			t.Fatalf("%v by %d: %v", l, at, m)
		}
		for _, r := range []rune{0x301, 'a', 0} {
			want, there := marked(l, at, r)
			if m, ok := line.Mark(l, at, r); ok != there || !slices.Equal(m, want) {
				t.Fatalf("%v at %d by %x: %v, %v, not %v, %v", l, at, r, m, ok, want, there)
			}
		}
	}
}

// P6.1 to P6.3: all short lines of all kinds of cells, at all places.
func TestEachLine(t *testing.T) {
	eachLine(allCells(), 3, func(l Line) { checkOne(t, l) })
	eachLine(allCells(), 2, func(l Line) { checkPlaces(t, l, allCells()) })
	some := []Cell{blankI, leftI, leftD, rightI, rightD, wrongA}
	eachLine(some, 5, func(l Line) { checkOne(t, l) })
	eachLine(some, 4, func(l Line) { checkPlaces(t, l, some) })
}

// P6.4: what is made of right lines, by right pens, is right, and as long; mending it once more changes nothing.
func TestMadeIsRight(t *testing.T) {
	seen := 0
	check := func(of Line, n int, made Line) {
		t.Helper()
		if !line.Right(made) || len(made) != n {
			t.Fatalf("of %v: %v", of, made)
		}
		if !slices.Equal(line.Mend(made), made) {
			t.Fatalf("of %v: %v isn't mended", of, made)
		}
	}
	eachLine(rightCells(), 4, func(l Line) {
		check(l, len(l), line.Mend(onePen(l)))
		if !line.Right(l) {
			return
		}
		seen++
		check(l, len(l), line.Mend(l))
		for at := -1; at <= len(l)+1; at++ {
			for _, c := range allCells() {
				m, _ := line.Put(l, at, c)
				check(l, len(l), m)
			}
			for to := -1; to <= len(l)+1; to++ {
				check(l, len(l), line.Erase(l, at, to, dye))
			}
			for _, r := range runes {
				m, _ := line.Mark(l, at, r)
				check(l, len(l), m)
			}
			check(l, max(at, 0), line.Fit(l, at))
		}
		check(l, 512, line.Fit(l, 513))
	})
	// Four kinds of plain cells, three of wide ones: of n cells 4 times as many as of n - 1, and 3 times as many as of n - 2.
	if seen != 1+4+(4*4+3)+(4*19+3*4)+(4*88+3*19) {
		t.Errorf("%d right lines", seen)
	}
	for n := -2; n < 600; n++ {
		if !line.Right(line.New(n)) {
			t.Errorf("New(%d) isn't right", n)
		}
	}
}

// onePen: a line all of the zero pen, so that mending it makes it right.
func onePen(l Line) Line {
	l = slices.Clone(l)
	for i, c := range l {
		l[i] = cell.With(c, Pen{})
	}
	return l
}

// P6.4: one call behind the other, for long: what is made stays right, and as long.
func TestManySteps(t *testing.T) {
	l := line.New(17)
	cells := []Cell{plain, left, leftI, full, leftD, plainI, right, wrongB}
	for i := range 20000 {
		at, before := i*7%19-1, l
		want, ok := l, true
		switch i % 5 {
		case 0, 1, 2:
			l, ok = line.Put(before, at, cells[i*5%8])
			want, _ = withCell(before, at, cells[i*5%8])
		case 3:
			l, ok = line.Mark(before, at, 0x301)
			want, _ = marked(before, at, 0x301)
		case 4:
			l = line.Erase(before, at, at+i%4-1, ink)
			want = erased(before, at, at+i%4-1, ink)
		}
		if !line.Right(l) || len(l) != 17 || !slices.Equal(l, want) || !ok && !slices.Equal(l, before) {
			t.Fatalf("step %d of %v: %v, not %v", i, before, l, want)
		}
	}
}

// The chapter's example.
func TestExample(t *testing.T) {
	b := cell.Blank(Pen{})
	w, _ := cell.Of(0x3042, Pen{})
	a, _ := cell.Of('a', Pen{})
	l, ok := line.Put(line.New(4), 1, w)
	if !ok || !line.Same(l, Line{b, w, cell.Rest(w), b}) {
		t.Error(l, ok)
	}
	l, ok = line.Put(l, 2, a)
	if !ok || !line.Same(l, Line{b, b, a, b}) {
		t.Error(l, ok)
	}
}

// ask: all that calls make of a line, at a place and another one.
func ask(l Line, at, to int, c Cell, r rune) ([]Line, []bool, int, string) {
	put, isPut := line.Put(l, at, c)
	mark, isMarked := line.Mark(l, at, r)
	lines := []Line{line.New(at), line.Mend(l), put, line.Erase(l, at, to, c.Pen), line.Fit(l, to), mark}
	return lines, []bool{line.Right(l), isPut, isMarked, line.Same(l, put)}, line.Used(l), line.Text(l)
}

// askOften calls f with lines of each kind, and places in them, beside them and far from them.
func askOften(f func(l Line, at, to int, c Cell, r rune)) {
	i := 0
	places := []int{math.MinInt, -1, 0, 1, 2, 3, 4, 600, math.MaxInt}
	eachLine([]Cell{blank, plainI, leftI, rightI, rightD, wrongE}, 4, func(l Line) {
		for _, at := range places {
			i++
			f(l, at, places[i%len(places)], allCells()[i%len(allCells())], runes[i%len(runes)])
		}
	})
	// Calls that change nothing share nothing either.
	for _, c := range []Cell{plain, leftI, wrongB} {
		f(Line{plain, leftI, rightI, plain}, 0, 4, c, 0x301)
		f(Line{plain, leftI, rightI, plain}, 2, 2, c, 'x')
		f(slices.Repeat(Line{leftI, rightI}, 256), 511, 512, c, 0x301)
		f(slices.Repeat(Line{leftI, rightI, plain}, 300), 899, 900, c, 0x301)
	}
}

// What is handed in stays as it was, its spare room too.
func TestLineStays(t *testing.T) {
	askOften(func(l Line, at, to int, c Cell, r rune) {
		roomy := append(slices.Clone(l), rightD, leftI, full, wrongE, rightD)
		given := roomy[:len(l)]
		before := slices.Clone(roomy)
		ask(given, at, to, c, r)
		line.Same(given, roomy)
		if !slices.Equal(roomy, before) {
			t.Fatalf("%v at %d, %d: became %v", before, at, to, roomy)
		}
	})
}

// Answers are new memory: they share none with what is handed in, nor with one another, spare room counted.
func TestAnswersAreNew(t *testing.T) {
	stain := Cell{R: 'q', W: 9}
	askOften(func(l Line, at, to int, c Cell, r rune) {
		given := append(slices.Clone(l), full, full, full)[:len(l)]
		lines, _, _, _ := ask(given, at, to, c, r)
		var all []Line
		for _, m := range lines {
			all = append(all, slices.Clone(m))
		}
		for i, m := range lines {
			m = m[:cap(m)]
			for j := range m {
				m[j] = stain
			}
			all[i] = nil
			for k, other := range all {
				if other != nil && !slices.Equal(lines[k], other) {
					t.Fatalf("%v at %d, %d: answers %d and %d share memory", l, at, to, i, k)
				}
			}
			if !slices.Equal(given[:len(l)+3], append(slices.Clone(l), full, full, full)) {
				t.Fatalf("%v at %d, %d: answer %d shares memory with the line", l, at, to, i)
			}
		}
	})
}

// nil and empty lists are one, as arguments.
func TestNoCells(t *testing.T) {
	for _, l := range []Line{nil, {}, line.New(5)[:0]} {
		for _, at := range numbers {
			lines, told, n, s := ask(l, at, at, plain, 0x301)
			for i, m := range lines {
				if i != 0 && i != 4 && len(m) != 0 {
					t.Errorf("%d: answer %d is %v", at, i, m)
				}
			}
			if !line.Same(lines[0], lines[4]) {
				t.Errorf("%d: New has %d cells, Fit %d", at, len(lines[0]), len(lines[4]))
			}
			if !slices.Equal(told, []bool{true, false, false, true}) || n != 0 || s != "" {
				t.Errorf("%d: %v, %d, %q", at, told, n, s)
			}
		}
	}
}

// P1: lines longer than MaxSide are done with as well, at numbers from end to end.
func TestLongLines(t *testing.T) {
	l := slices.Repeat(Line{leftI, rightI, plain, rightD, leftD, wrongA}, 2000)
	if m := line.Mend(l); !slices.Equal(m, mended(l)) {
		t.Error("mended")
	}
	if line.Right(l) || line.Used(l) != len(l) || line.Text(l) != textOf(l) {
		t.Error("told")
	}
	for _, at := range append(numbers, 11994, 11998, 11999, 12000) {
		for _, c := range []Cell{plain, left, right, wrongH} {
			want, there := withCell(l, at, c)
			if m, ok := line.Put(l, at, c); ok != there || !slices.Equal(m, want) {
				t.Errorf("%v at %d: %v", c, at, ok)
			}
		}
		for _, to := range numbers {
			if m := line.Erase(l, at, to, dye); !slices.Equal(m, erased(l, at, to, dye)) {
				t.Errorf("from %d to %d", at, to)
			}
		}
		want, there := marked(l, at, 0x301)
		if m, ok := line.Mark(l, at, 0x301); ok != there || !slices.Equal(m, want) {
			t.Errorf("marked at %d: %v", at, ok)
		}
	}
}

// P2: the same calls have the same answers, whatever came between.
func TestSameAnswers(t *testing.T) {
	type answer struct {
		lines []Line
		told  []bool
		n     int
		s     string
	}
	var first []answer
	askOften(func(l Line, at, to int, c Cell, r rune) {
		var a answer
		a.lines, a.told, a.n, a.s = ask(l, at, to, c, r)
		first = append(first, a)
	})
	i := 0
	askOften(func(l Line, at, to int, c Cell, r rune) {
		lines, told, n, s := ask(l, at, to, c, r)
		if !slices.EqualFunc(lines, first[i].lines, slices.Equal) || !slices.Equal(told, first[i].told) || n != first[i].n || s != first[i].s {
			t.Fatalf("%v at %d, %d: %v, not %v", l, at, to, lines, first[i].lines)
		}
		i++
	})
}

// lineOf: a line of cells of all kinds, by bytes.
func lineOf(b []byte) Line {
	var l Line
	cells := allCells()
	for _, n := range b {
		if int(n) < len(cells)*8 {
			l = append(l, cells[int(n)%len(cells)])
		} else {
			l = append(l, Cell{R: rune(n) << 5, M: [2]rune{rune(n) * 3}, W: n % 4, Pen: Pen{Flags: n}})
		}
	}
	return l
}

// P1: no call panics, and what the chapter says holds, at all arguments.
func FuzzLine(f *testing.F) {
	f.Add([]byte{0, 4, 7, 1}, 1, 3, byte(4), rune(0x301))
	f.Add([]byte{5, 8, 8, 5, 5}, 2, -1, byte(10), rune('a'))
	f.Add([]byte{7, 6, 4, 255, 254, 11}, 5, 600, byte(200), rune(-1))
	f.Add([]byte{}, math.MinInt, math.MaxInt, byte(0), rune(0))
	f.Add([]byte{4, 7}, math.MaxInt, math.MinInt, byte(6), rune(math.MaxInt32))
	f.Fuzz(func(t *testing.T, b []byte, at, to int, by byte, r rune) {
		l, c := lineOf(b), lineOf([]byte{by})[0]
		checkOne(t, l)
		put, isPut := withCell(l, at, c)
		if m, ok := line.Put(l, at, c); ok != isPut || !slices.Equal(m, put) {
			t.Errorf("%v at %d of %v: %v, %v", c, at, l, m, ok)
		}
		if m := line.Erase(l, at, to, c.Pen); !slices.Equal(m, erased(l, at, to, c.Pen)) {
			t.Errorf("%v from %d to %d: %v", l, at, to, m)
		}
		if m := line.Fit(l, to); !slices.Equal(m, fitted(l, to)) {
			t.Errorf("%v by %d: %v", l, to, m)
		}
		mark, isMarked := marked(l, at, r)
		if m, ok := line.Mark(l, at, r); ok != isMarked || !slices.Equal(m, mark) {
			t.Errorf("%v at %d by %x: %v, %v", l, at, r, m, ok)
		}
	})
}
