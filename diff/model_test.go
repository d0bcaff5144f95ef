package diff_test

import (
	"math"
	"math/rand"
	"slices"
	"testing"

	"prolepsis/api"
	"prolepsis/cell"
	"prolepsis/diff"
	"prolepsis/grid"
	"prolepsis/pen"
)

type (
	Cell = cell.Cell
	Line = []cell.Cell
	Pen  = pen.Pen
	Grid = grid.Grid
	Diff = diff.Diff
	Span = diff.Span
)

// ink is the pen of the cells whose name ends with a big I.
var ink = Pen{Flags: 4, Fore: 3}

// The cells of the tests: each differs from another one in its marks, its W or its pen alone.
var (
	blank  = Cell{R: ' ', W: 1}
	blankI = Cell{R: ' ', W: 1, Pen: ink}
	a      = Cell{R: 'a', W: 1}
	aI     = Cell{R: 'a', W: 1, Pen: ink}
	b      = Cell{R: 'b', W: 1}
	one    = Cell{R: 'a', M: [2]rune{0x301}, W: 1}
	two    = Cell{R: 'a', M: [2]rune{0x301, 0x302}, W: 1}
	left   = Cell{R: 0x3042, W: 2}
	leftM  = Cell{R: 0x3042, M: [2]rune{0x301}, W: 2}
	leftI  = Cell{R: 0x3042, W: 2, Pen: ink}
	right  = Cell{}
	rightI = Cell{Pen: ink}
)

// wrongCells: cells that aren't right, each by one thing alone.
func wrongCells() Line {
	return Line{
		{R: 'a', W: 3},
		{R: 'a', W: 2},
		{R: 0x3042, W: 1},
		{R: 'a'},
		{R: 7, W: 1},
		{R: -1, W: 1},
		{R: 0xd800, W: 1},
		{R: 0x301, W: 1},
		{R: 'a', M: [2]rune{0, 0x301}, W: 1},
		{R: 'a', M: [2]rune{'b'}, W: 1},
		{M: [2]rune{0x301}},
		{R: 'a', W: 1, Pen: Pen{Flags: 32}},
		{R: 'a', W: 1, Pen: Pen{Fore: 17}},
		{R: 'a', W: 1, Pen: Pen{Back: 17}},
	}
}

// numbers: from end to end, and beside the sides of small grids and of the greatest one.
var numbers = []int{math.MinInt, math.MinInt + 1, math.MinInt32, -513, -512, -3, -2, -1, 0, 1, 2, 3, 4, 5, 510, 511, 512, 513, 514, math.MaxInt32, math.MaxInt - 1, math.MaxInt}

// times: a cell, so often.
func times(n int, c Cell) Line { return slices.Repeat(Line{c}, n) }

// must: a grid of these rows, with its cursor there.
func must(t testing.TB, row, col int, rows ...Line) *Grid {
	t.Helper()
	g, e := grid.New(len(rows), len(rows[0]))
	if e != api.OK {
		t.Fatal(e)
	}
	for r, l := range rows {
		if !g.Lay(r, l) {
			t.Fatalf("row %d can't be laid: %v", r, l)
		}
	}
	g.Move(row, col)
	if g.Row() != row || g.Col() != col {
		t.Fatalf("no place %d, %d", row, col)
	}
	return g
}

// fitLines: a grid's cells, in so many rows and columns, by the words of the layers below.
func fitLines(g *Grid, rows, cols int) []Line {
	var all []Line
	for r := range rows {
		var l Line
		for c := range cols {
			x, ok := g.At(r, c)
			if !ok {
				x = blank
			}
			if x.W == 2 && c == cols-1 {
				x = Cell{R: ' ', W: 1, Pen: x.Pen}
			}
			l = append(l, x)
		}
		all = append(all, l)
	}
	return all
}

// modelOf: the difference of two grids that there are, by the chapter's words.
func modelOf(from, to *Grid) Diff {
	d := Diff{Rows: to.Rows(), Cols: to.Cols(), Row: to.Row(), Col: to.Col()}
	fit := fitLines(from, d.Rows, d.Cols)
	for r := range d.Rows {
		var other []int
		for c := range d.Cols {
			if x, _ := to.At(r, c); x != fit[r][c] {
				other = append(other, c)
			}
		}
		if len(other) == 0 {
			continue
		}
		s := Span{Row: r, Col: other[0]}
		for c := other[0]; c <= other[len(other)-1]; c++ {
			x, _ := to.At(r, c)
			s.Cells = append(s.Cells, x)
		}
		d.Spans = append(d.Spans, s)
	}
	return d
}

// modelCheck: what is wrong with a difference, by the chapter's words.
func modelCheck(d Diff) api.Errno {
	if d.Rows < 1 || d.Rows > 512 || d.Cols < 1 || d.Cols > 512 {
		return 11
	}
	if d.Row < 0 || d.Row > d.Rows-1 || d.Col < 0 || d.Col > d.Cols-1 {
		return 5
	}
	for i, s := range d.Spans {
		switch {
		case i > 0 && !(d.Spans[i-1].Row < s.Row):
			return 17
		case s.Row < 0 || s.Row > d.Rows-1, s.Col < 0 || s.Col > d.Cols-1:
			return 5
		case s.Col+len(s.Cells) > d.Cols:
			return 5
		case len(s.Cells) == 0:
			return 3
		}
	}
	return 0
}

// rightLine: is a line, by the words of the layers below?
func rightLine(l Line) bool {
	for c, x := range l {
		if !cell.Right(x) {
			return false
		}
		if x.W == 2 && (c+1 == len(l) || l[c+1] != Cell{Pen: x.Pen}) {
			return false
		}
		if x.W == 0 && (c == 0 || l[c-1].W != 2) {
			return false
		}
	}
	return true
}

// modelApply: the rows that a difference makes of a grid that there is, by the chapter's words.
func modelApply(d Diff, g *Grid) ([]Line, api.Errno) {
	if e := modelCheck(d); e != 0 {
		return nil, e
	}
	rows := fitLines(g, d.Rows, d.Cols)
	for _, s := range d.Spans {
		for i, x := range s.Cells {
			rows[s.Row][s.Col+i] = x
		}
		if !rightLine(rows[s.Row]) {
			return nil, 3
		}
	}
	return rows, 0
}

// sameDiff: are differences, number by number and cell by cell?
func sameDiff(x, y Diff) bool {
	if x.Rows != y.Rows || x.Cols != y.Cols || x.Row != y.Row || x.Col != y.Col || len(x.Spans) != len(y.Spans) {
		return false
	}
	for i, s := range x.Spans {
		z := y.Spans[i]
		if s.Row != z.Row || s.Col != z.Col || !slices.Equal(s.Cells, z.Cells) {
			return false
		}
	}
	return true
}

// cloneDiff: a difference that shares nothing with another one.
func cloneDiff(d Diff) Diff {
	d.Spans = slices.Clone(d.Spans)
	for i := range d.Spans {
		d.Spans[i].Cells = slices.Clone(d.Spans[i].Cells)
	}
	return d
}

// checkOf holds all that is promised of two grids' difference.
func checkOf(t *testing.T, what string, from, to *Grid) {
	t.Helper()
	wasFrom, wasTo := from.Copy(), to.Copy()
	d := diff.Of(from, to)
	if want := modelOf(from, to); !sameDiff(d, want) {
		t.Fatalf("%s: %v, not %v", what, d, want)
	}
	if e := diff.Check(d); e != api.OK {
		t.Errorf("%s: a difference that is wrong: %d", what, e)
	}
	made, e := diff.Apply(d, from)
	if e != api.OK || made == nil || !grid.Same(made, to) {
		t.Errorf("%s: applied: %d", what, e)
	}
	if again := diff.Of(made, to); len(again.Spans) != 0 {
		t.Errorf("%s: grids that are the same: %v", what, again)
	}
	n := 0
	for _, s := range d.Spans {
		n += len(s.Cells)
	}
	if diff.Cells(d) != n {
		t.Errorf("%s: %d cells, not %d", what, diff.Cells(d), n)
	}
	if !grid.Same(from, wasFrom) || !grid.Same(to, wasTo) {
		t.Errorf("%s: a grid is another one", what)
	}
}

// checkApply holds what Apply answers against the model.
func checkApply(t *testing.T, what string, d Diff, g *Grid) {
	t.Helper()
	was, whole := g.Copy(), cloneDiff(d)
	rows, want := modelApply(d, g)
	made, e := diff.Apply(d, g)
	if e != want || (made == nil) != (want != 0) {
		t.Fatalf("%s: %d, not %d, of %v", what, e, want, d)
	}
	if check := diff.Check(d); check != modelCheck(d) {
		t.Errorf("%s: Check: %d, of %v", what, check, d)
	}
	if made != nil {
		if made.Rows() != d.Rows || made.Cols() != d.Cols || made.Row() != d.Row || made.Col() != d.Col || !grid.Right(made) {
			t.Errorf("%s: a grid of %d, %d, its cursor at %d, %d", what, made.Rows(), made.Cols(), made.Row(), made.Col())
		}
		for r, l := range rows {
			if !slices.Equal(made.Line(r), l) {
				t.Errorf("%s: row %d: %v, not %v", what, r, made.Line(r), l)
			}
		}
	}
	if !grid.Same(g, was) || !sameDiff(d, whole) {
		t.Errorf("%s: what was handed in is another one", what)
	}
}

// anyLine: a right line of so many cells, by chance.
func anyLine(rnd *rand.Rand, n int) Line {
	l := make(Line, 0, n)
	for len(l) < n {
		c := Line{blank, blank, blankI, a, aI, b, one, two, left, leftM, leftI}[rnd.Intn(11)]
		if c.W == 2 && len(l) == n-1 {
			continue
		}
		l = append(l, c)
		if c.W == 2 {
			l = append(l, Cell{Pen: c.Pen})
		}
	}
	return l
}

// anyGrid: a grid of that size, by chance.
func anyGrid(t testing.TB, rnd *rand.Rand, rows, cols int) *Grid {
	t.Helper()
	var l []Line
	for range rows {
		l = append(l, anyLine(rnd, cols))
	}
	return must(t, rnd.Intn(rows), rnd.Intn(cols), l...)
}
