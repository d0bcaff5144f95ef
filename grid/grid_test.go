package grid_test

import (
	"math"
	"math/rand"
	"slices"
	"testing"

	"prolepsis/api"
	"prolepsis/cell"
	"prolepsis/grid"
	"prolepsis/line"
	"prolepsis/pen"
)

type (
	Cell = cell.Cell
	Line = []cell.Cell
	Pen  = pen.Pen
	Grid = grid.Grid
)

// The pens of the tests: two that are right, and some that aren't, each by one field alone.
var (
	ink   = Pen{Flags: 4}
	dye   = Pen{Flags: 31, Fore: 16, Back: 16}
	wrong = []Pen{{Flags: 32}, {Fore: 17}, {Back: 17}, {Flags: 255, Fore: 255, Back: 255}}
)

// The cells of the tests; a big letter at the end names the pen.
var (
	blank  = Cell{R: 0x20, W: 1}
	blankI = Cell{R: 0x20, W: 1, Pen: ink}
	blankD = Cell{R: 0x20, W: 1, Pen: dye}
	plain  = Cell{R: 'a', W: 1}
	plainI = Cell{R: 'b', M: [2]rune{0x301}, W: 1, Pen: ink}
	full   = Cell{R: 'c', M: [2]rune{0x301, 0x302}, W: 1, Pen: dye}
	left   = Cell{R: 0x3042, W: 2}
	leftI  = Cell{R: 0x3042, W: 2, Pen: ink}
	leftD  = Cell{R: 0x1f600, M: [2]rune{0x301}, W: 2, Pen: dye}
	right  = Cell{}
	rightI = Cell{Pen: ink}
	rightD = Cell{Pen: dye}
)

// The numbers of the tests: from end to end, and beside the sides of small grids and of the greatest one.
var numbers = []int{math.MinInt, math.MinInt + 1, math.MinInt32, -513, -512, -511, -4, -3, -2, -1, 0, 1, 2, 3, 4, 5, 511, 512, 513, 1024, math.MaxInt32, math.MaxInt - 1, math.MaxInt}

var runes = []rune{0x301, 0x302, 0xfe0f, 'a', ' ', 0x3042, 0, 7, -1, 0xd800, 0x110000, math.MinInt32, math.MaxInt32}

// putable: cells that may be put where there is room.
func putable() []Cell { return []Cell{blank, blankI, plain, plainI, full, left, leftI, leftD} }

// unputable: right halves, and cells that aren't right, each by one thing alone.
func unputable() []Cell {
	l := []Cell{
		right, rightI, rightD,
		{R: 'a', W: 3},
		{R: 'a', W: 255},
		{R: 'a', W: 2},
		{R: 0x3042, W: 1},
		{R: 7, W: 1},
		{R: 0x301, W: 1},
		{R: -1, W: 1},
		{R: 0xd800, W: 1},
		{R: 'a', M: [2]rune{0, 0x301}, W: 1},
		{R: 'a', M: [2]rune{'b'}, W: 1},
		{R: 'a'},
	}
	for _, p := range wrong {
		l = append(l, Cell{R: 'a', W: 1, Pen: p}, Cell{R: 0x3042, W: 2, Pen: p}, Cell{Pen: p})
	}
	return l
}

func allPens() []Pen { return append([]Pen{{}, ink, dye}, wrong...) }

func rightPen(p Pen) bool { return p.Flags <= 31 && p.Fore <= 16 && p.Back <= 16 }

// model is a grid by the chapter's words.
type model struct {
	rows, cols, row, col int
	cells                []Line
}

func sized(n int) bool { return 1 <= n && n <= 512 }

func blanks(n int, p Pen) Line { return slices.Repeat(Line{{R: 0x20, W: 1, Pen: p}}, n) }

func newModel(rows, cols int) *model {
	m := &model{rows: rows, cols: cols}
	for range rows {
		m.cells = append(m.cells, blanks(cols, Pen{}))
	}
	return m
}

func (m *model) clone() *model {
	c := *m
	c.cells = nil
	for _, l := range m.cells {
		c.cells = append(c.cells, slices.Clone(l))
	}
	return &c
}

func (m *model) has(r int) bool { return 0 <= r && r < m.rows }

func (m *model) put(r, c int, x Cell) (ok bool) {
	if m.has(r) {
		m.cells[r], ok = line.Put(m.cells[r], c, x)
	}
	return ok
}

func (m *model) mark(r, c int, x rune) (ok bool) {
	if m.has(r) {
		m.cells[r], ok = line.Mark(m.cells[r], c, x)
	}
	return ok
}

func (m *model) erase(r, from, to int, p Pen) {
	if m.has(r) && rightPen(p) {
		m.cells[r] = line.Erase(m.cells[r], from, to, p)
	}
}

func (m *model) lay(r int, l Line) bool {
	if !m.has(r) || !line.Right(l) || len(l) != m.cols {
		return false
	}
	m.cells[r] = slices.Clone(l)
	return true
}

// nearest: the number below a count that is nearest.
func nearest(n, count int) int {
	switch {
	case n < 0:
		return 0
	case n >= count:
		return count - 1
	}
	return n
}

func (m *model) move(r, c int) { m.row, m.col = nearest(r, m.rows), nearest(c, m.cols) }

// scroll goes row by row, so that it ends soon by no more than as many steps as there are rows.
func (m *model) scroll(n int, p Pen) {
	if !rightPen(p) {
		return
	}
	for i := 0; i < m.rows && i < n; i++ {
		m.cells = append(m.cells[1:], blanks(m.cols, p))
	}
	for i := 0; i < m.rows && -i > n; i++ {
		m.cells = slices.Concat([]Line{blanks(m.cols, p)}, m.cells[:m.rows-1])
	}
}

func (m *model) fit(rows, cols int) *model {
	f := newModel(rows, cols)
	for r := range f.cells {
		if r < m.rows {
			f.cells[r] = line.Fit(m.cells[r], cols)
		}
	}
	f.move(m.row, m.col)
	return f
}

// check: a grid is what the model says, by all that can be told of it; and is right, as P7.4 has it.
func check(t *testing.T, what string, g *Grid, m *model) {
	t.Helper()
	if g.Rows() != m.rows || g.Cols() != m.cols || g.Row() != m.row || g.Col() != m.col {
		t.Fatalf("%s: %d, %d, the cursor %d, %d; not %d, %d, %d, %d", what, g.Rows(), g.Cols(), g.Row(), g.Col(), m.rows, m.cols, m.row, m.col)
	}
	for r, l := range m.cells {
		if have := g.Line(r); !slices.Equal(have, l) {
			t.Fatalf("%s: row %d: %v, not %v", what, r, have, l)
		}
		for c, want := range l {
			if x, ok := g.At(r, c); !ok || x != want {
				t.Fatalf("%s: %d, %d: %v, %v, not %v", what, r, c, x, ok, want)
			}
		}
	}
	if !grid.Right(g) {
		t.Fatalf("%s: not right", what)
	}
}

func must(t *testing.T, rows, cols int) *Grid {
	t.Helper()
	g, e := grid.New(rows, cols)
	if e != api.OK || g == nil {
		t.Fatalf("%d, %d: %v, %d", rows, cols, g, e)
	}
	return g
}

// of: a grid of rows that are right, and its model.
func of(t *testing.T, rows ...Line) (*Grid, *model) {
	t.Helper()
	g, m := must(t, len(rows), len(rows[0])), newModel(len(rows), len(rows[0]))
	for r, l := range rows {
		if !g.Lay(r, l) || !m.lay(r, l) {
			t.Fatalf("%v isn't laid", l)
		}
	}
	return g, m
}

// sample: a grid with cells of all kinds, its cursor neither at the first place nor at the last one.
func sample(t *testing.T) (*Grid, *model) {
	t.Helper()
	g, m := of(t,
		Line{plain, leftI, rightI, full},
		Line{leftD, rightD, left, right},
		Line{plainI, blankD, blank, plain},
	)
	g.Move(1, 2)
	m.move(1, 2)
	return g, m
}

// P7.1: sizes at both ends of what may be, and beyond; each alone, and both.
func TestNew(t *testing.T) {
	sides := append([]int{6, 510}, numbers...)
	for _, rows := range sides {
		for _, cols := range sides {
			g, e := grid.New(rows, cols)
			if !sized(rows) || !sized(cols) {
				if g != nil || e != 11 {
					t.Errorf("%d, %d: %v, %d", rows, cols, g, e)
				}
				continue
			}
			if g == nil || e != api.OK || g.Rows() != rows || g.Cols() != cols || g.Row() != 0 || g.Col() != 0 || !grid.Right(g) {
				t.Fatalf("%d, %d: error %d", rows, cols, e)
			}
			for r := range rows {
				if l := g.Line(r); len(l) != cols || line.Used(l) != 0 {
					t.Fatalf("%d, %d: row %d: %v", rows, cols, r, l)
				}
			}
		}
	}
	for _, size := range [][2]int{{1, 1}, {1, 4}, {4, 1}, {2, 3}, {512, 1}, {1, 512}} {
		check(t, "new", must(t, size[0], size[1]), newModel(size[0], size[1]))
	}
}

// P7.1: At and Line of places that there are, at their edges, and beyond them.
func TestAtAndLine(t *testing.T) {
	g, m := sample(t)
	check(t, "sample", g, m)
	for _, r := range numbers {
		l := g.Line(r)
		if m.has(r) && !slices.Equal(l, m.cells[r]) || !m.has(r) && len(l) != 0 {
			t.Errorf("row %d: %v", r, l)
		}
		for _, c := range numbers {
			x, ok := g.At(r, c)
			if there := m.has(r) && c >= 0 && c < 4; ok != there || there && x != m.cells[r][c] || !there && x != (Cell{}) {
				t.Errorf("%d, %d: %v, %v", r, c, x, ok)
			}
		}
	}
	check(t, "asked", g, m)
}

// P7.2: Put where there is room, at the edges and onto either half of a wide one.
func TestPutByHand(t *testing.T) {
	for _, x := range []struct {
		r, c int
		x    Cell
		want Line
	}{
		{0, 0, full, Line{full, leftI, rightI, full}},
		{0, 1, plain, Line{plain, plain, blankI, full}},
		{0, 2, plain, Line{plain, blankI, plain, full}},
		{0, 3, blankI, Line{plain, leftI, rightI, blankI}},
		{0, 0, leftD, Line{leftD, rightD, blankI, full}},
		{0, 1, leftD, Line{plain, leftD, rightD, full}},
		{0, 2, leftD, Line{plain, blankI, leftD, rightD}},
		{1, 1, leftI, Line{blankD, leftI, rightI, blank}},
		{1, 0, plainI, Line{plainI, blankD, left, right}},
		{2, 2, left, Line{plainI, blankD, left, right}},
		{2, 3, plainI, Line{plainI, blankD, blank, plainI}},
	} {
		g, m := sample(t)
		if !g.Put(x.r, x.c, x.x) {
			t.Errorf("%v at %d, %d: not put", x.x, x.r, x.c)
		}
		m.cells[x.r] = x.want
		check(t, "put", g, m)
	}
	one := must(t, 1, 1)
	if one.Put(0, 0, left) || !one.Put(0, 0, plain) || line.Text(one.Line(0)) != "a" {
		t.Error("a grid of one cell")
	}
	big := must(t, 512, 512)
	if !big.Put(511, 510, left) || big.Put(511, 511, left) || big.Put(512, 0, plain) || big.Put(0, 512, plain) || !big.Put(511, 509, plain) {
		t.Error("the last row")
	}
	if l := big.Line(511); !slices.Equal(l[509:], Line{plain, left, right}) || line.Used(l[:509]) != 0 || line.Used(big.Line(510)) != 0 {
		t.Error(l[509:])
	}
}

// P7.2: a Put that is refused says so, and changes nothing.
func TestPutRefused(t *testing.T) {
	g, m := sample(t)
	for _, r := range numbers {
		for _, c := range numbers {
			for _, x := range unputable() {
				if g.Put(r, c, x) {
					t.Errorf("%v at %d, %d: put", x, r, c)
				}
			}
			for _, x := range putable() {
				if there := m.has(r) && c >= 0 && c <= 4-int(x.W); !there && g.Put(r, c, x) {
					t.Errorf("%v at %d, %d: put", x, r, c)
				}
			}
		}
	}
	check(t, "refused", g, m)
}

// P7.2: Mark, of either half of a wide one, of plain cells, and of those that have no room.
func TestMark(t *testing.T) {
	for _, x := range []struct {
		r, c int
		want Line
	}{
		{0, 0, Line{{R: 'a', M: [2]rune{0x300}, W: 1}, leftI, rightI, full}},
		{0, 1, Line{plain, {R: 0x3042, M: [2]rune{0x300}, W: 2, Pen: ink}, rightI, full}},
		{0, 2, Line{plain, {R: 0x3042, M: [2]rune{0x300}, W: 2, Pen: ink}, rightI, full}},
		{1, 1, Line{{R: 0x1f600, M: [2]rune{0x301, 0x300}, W: 2, Pen: dye}, rightD, left, right}},
		{1, 3, Line{leftD, rightD, {R: 0x3042, M: [2]rune{0x300}, W: 2}, right}},
		{2, 0, Line{{R: 'b', M: [2]rune{0x301, 0x300}, W: 1, Pen: ink}, blankD, blank, plain}},
		{2, 3, Line{plainI, blankD, blank, {R: 'a', M: [2]rune{0x300}, W: 1}}},
	} {
		g, m := sample(t)
		if !g.Mark(x.r, x.c, 0x300) {
			t.Errorf("%d, %d: not marked", x.r, x.c)
		}
		m.cells[x.r] = x.want
		check(t, "marked", g, m)
	}
	g, m := sample(t)
	if g.Mark(0, 3, 0x300) {
		t.Error("a third mark")
	}
	for _, r := range numbers {
		for _, c := range numbers {
			for _, x := range runes {
				if there := m.has(r) && c >= 0 && c < 4 && x >= 0x301 && x <= 0xfe0f && x != 0x3042; !there && g.Mark(r, c, x) {
					t.Errorf("%d, %d by %x: marked", r, c, x)
				}
			}
		}
	}
	check(t, "refused", g, m)
}

// P7.2: Erase, of columns in either order, below 0 and beyond the columns, and through wide ones.
func TestErase(t *testing.T) {
	for _, x := range []struct {
		r, from, to int
		want        Line
	}{
		{0, 0, 1, Line{blankD, leftI, rightI, full}},
		{0, 0, 2, Line{blankD, blankD, blankI, full}},
		{0, 2, 3, Line{plain, blankI, blankD, full}},
		{0, 3, 4, Line{plain, leftI, rightI, blankD}},
		{0, 3, 9, Line{plain, leftI, rightI, blankD}},
		{1, -7, 1, Line{blankD, blankD, left, right}},
		{1, 3, 4, Line{leftD, rightD, blank, blankD}},
		{1, 1, 3, Line{blankD, blankD, blankD, blank}},
		{2, 0, 4, blanks(4, dye)},
		{2, math.MinInt, math.MaxInt, blanks(4, dye)},
	} {
		g, m := sample(t)
		g.Erase(x.r, x.from, x.to, dye)
		m.cells[x.r] = x.want
		check(t, "erased", g, m)
	}
	g, m := sample(t)
	for _, x := range [][2]int{{0, 0}, {2, 2}, {4, 4}, {3, 1}, {4, 0}, {9, 4}, {-1, -3}, {-3, 0}, {math.MaxInt, math.MinInt}} {
		g.Erase(0, x[0], x[1], dye)
		check(t, "from above to", g, m)
	}
	for _, r := range []int{math.MinInt, -3, -1, 3, 4, 512, math.MaxInt} {
		g.Erase(r, 0, 4, dye)
		g.Erase(r, math.MinInt, math.MaxInt, dye)
	}
	check(t, "no such row", g, m)
	for _, p := range wrong {
		for r := range 3 {
			g.Erase(r, 0, 4, p)
			g.Erase(r, 1, 2, p)
			g.Erase(r, 2, 1, p)
		}
	}
	check(t, "a pen that isn't right", g, m)
}

// P7.2: Lay of lines that may be laid, and of others.
func TestLay(t *testing.T) {
	for r := range 3 {
		for _, l := range []Line{
			{leftI, rightI, plain, blankD},
			{leftI, rightI, leftD, rightD},
			{full, leftI, rightI, full},
			blanks(4, dye),
			blanks(4, Pen{}),
		} {
			g, m := sample(t)
			if !g.Lay(r, l) {
				t.Errorf("%v at %d: not laid", l, r)
			}
			m.cells[r] = l
			check(t, "laid", g, m)
		}
	}
	g, m := sample(t)
	for _, l := range []Line{
		nil,
		{},
		{plain},
		{plain, plain, plain},
		{plain, plain, plain, plain, plain},
		blanks(512, Pen{}),
		blanks(600, Pen{}),
		{plain, plain, plain, left},
		{right, plain, plain, plain},
		{plain, left, plain, plain},
		{plain, left, rightI, plain},
		{plain, right, left, plain},
		{plain, plain, plain, {R: 'a', W: 3}},
		{plain, plain, plain, {R: 'a', W: 1, Pen: wrong[1]}},
		blanks(4, wrong[0]),
	} {
		for _, r := range numbers {
			if g.Lay(r, l) {
				t.Errorf("%v at %d: laid", l, r)
			}
		}
	}
	for _, r := range []int{math.MinInt, -512, -3, -1, 3, 4, 512, math.MaxInt} {
		if g.Lay(r, blanks(4, Pen{})) {
			t.Errorf("laid at %d", r)
		}
	}
	check(t, "refused", g, m)
}

// P7.2: Move to places that there are, and, brought to these, to all others.
func TestMove(t *testing.T) {
	for _, size := range [][2]int{{1, 1}, {3, 4}, {1, 5}, {5, 1}, {512, 512}} {
		g := must(t, size[0], size[1])
		for _, r := range numbers {
			for _, c := range numbers {
				g.Move(r, c)
				if g.Row() != nearest(r, size[0]) || g.Col() != nearest(c, size[1]) {
					t.Errorf("%v: %d, %d: at %d, %d", size, r, c, g.Row(), g.Col())
				}
			}
		}
	}
	g, m := sample(t)
	g.Move(2, 3)
	m.row, m.col = 2, 3
	check(t, "moved", g, m)
	g.Move(3, -1)
	m.row, m.col = 2, 0
	check(t, "brought", g, m)
	g.Move(-1, 4)
	m.row, m.col = 0, 3
	check(t, "brought", g, m)
}

// P7.2: Scroll by each number of rows, up and down; the cursor stays.
func TestScrollByHand(t *testing.T) {
	b := blanks(4, dye)
	for _, x := range []struct {
		n    int
		want func(c []Line) []Line
	}{
		{0, func(c []Line) []Line { return c }},
		{1, func(c []Line) []Line { return []Line{c[1], c[2], b} }},
		{2, func(c []Line) []Line { return []Line{c[2], b, b} }},
		{3, func(c []Line) []Line { return []Line{b, b, b} }},
		{4, func(c []Line) []Line { return []Line{b, b, b} }},
		{math.MaxInt, func(c []Line) []Line { return []Line{b, b, b} }},
		{-1, func(c []Line) []Line { return []Line{b, c[0], c[1]} }},
		{-2, func(c []Line) []Line { return []Line{b, b, c[0]} }},
		{-3, func(c []Line) []Line { return []Line{b, b, b} }},
		{-4, func(c []Line) []Line { return []Line{b, b, b} }},
		{math.MinInt, func(c []Line) []Line { return []Line{b, b, b} }},
	} {
		g, m := sample(t)
		g.Scroll(x.n, dye)
		m.cells = x.want(m.cells)
		check(t, "scrolled", g, m)
	}
}

// P7.2: Scroll by numbers from end to end, by all pens, of grids of several sizes; rows that came are rows like others.
func TestScroll(t *testing.T) {
	for _, rows := range []int{1, 2, 3, 5} {
		for _, n := range numbers {
			for _, p := range allPens() {
				g, m := must(t, rows, 3), newModel(rows, 3)
				for r := range rows {
					l := Line{{R: rune('a' + r), W: 1}, leftI, rightI}
					g.Lay(r, l)
					m.lay(r, l)
				}
				g.Move(rows/2, 1)
				m.move(rows/2, 1)
				for range 2 {
					g.Scroll(n, p)
					m.scroll(n, p)
					check(t, "scrolled", g, m)
				}
				for r := range rows {
					g.Put(r, r%3, plainI)
					m.put(r, r%3, plainI)
				}
				check(t, "put behind it", g, m)
				g.Scroll(-1, ink)
				m.scroll(-1, ink)
				check(t, "scrolled again", g, m)
			}
		}
	}
}

// P7.3: Fit to fewer and to more rows and columns; wide ones cut through, the cursor brought to it; the grid stays.
func TestFitByHand(t *testing.T) {
	for _, x := range []struct {
		rows, cols, row, col int
		want                 []Line
	}{
		{1, 1, 0, 0, []Line{{plain}}},
		{1, 2, 0, 1, []Line{{plain, blankI}}},
		{2, 3, 1, 2, []Line{{plain, leftI, rightI}, {leftD, rightD, blank}}},
		{3, 1, 1, 0, []Line{{plain}, {blankD}, {plainI}}},
		{1, 4, 0, 2, []Line{{plain, leftI, rightI, full}}},
		{3, 4, 1, 2, []Line{{plain, leftI, rightI, full}, {leftD, rightD, left, right}, {plainI, blankD, blank, plain}}},
		{4, 5, 1, 2, []Line{{plain, leftI, rightI, full, blank}, {leftD, rightD, left, right, blank}, {plainI, blankD, blank, plain, blank}, blanks(5, Pen{})}},
		{5, 2, 1, 1, []Line{{plain, blankI}, {leftD, rightD}, {plainI, blankD}, {blank, blank}, {blank, blank}}},
	} {
		g, m := sample(t)
		f, e := g.Fit(x.rows, x.cols)
		if e != api.OK || f == nil {
			t.Fatalf("%d, %d: %d", x.rows, x.cols, e)
		}
		check(t, "fit", f, &model{x.rows, x.cols, x.row, x.col, x.want})
		check(t, "what was fit", g, m)
	}
}

// P7.3: Fit by numbers from end to end: New's error, or what the chapter says; a grid of the same size is the same.
func TestFit(t *testing.T) {
	g, m := sample(t)
	for _, place := range [][2]int{{0, 0}, {2, 3}, {1, 3}} {
		g.Move(place[0], place[1])
		m.move(place[0], place[1])
		for _, rows := range numbers {
			for _, cols := range numbers {
				f, e := g.Fit(rows, cols)
				if !sized(rows) || !sized(cols) {
					if f != nil || e != api.ErrSize {
						t.Errorf("%d, %d: %v, %d", rows, cols, f, e)
					}
					continue
				}
				if e != api.OK || f == nil || grid.Same(f, g) != (rows == 3 && cols == 4) {
					t.Fatalf("%d, %d: %d", rows, cols, e)
				}
				if rows*cols < 5000 {
					check(t, "fit", f, m.fit(rows, cols))
				}
			}
		}
	}
	check(t, "what was fit", g, m)
	big := must(t, 512, 512)
	big.Put(511, 511, plain)
	big.Move(511, 511)
	f, e := big.Fit(512, 511)
	if e != api.OK || f.Rows() != 512 || f.Cols() != 511 || f.Row() != 511 || f.Col() != 510 || line.Used(f.Line(511)) != 0 {
		t.Error(e)
	}
}

// P7.3: grids that are the same, and grids that differ by one thing alone.
func TestSame(t *testing.T) {
	g, _ := sample(t)
	h, _ := sample(t)
	if !grid.Same(nil, nil) || grid.Same(g, nil) || grid.Same(nil, g) {
		t.Error("nil")
	}
	if !grid.Same(g, g) || !grid.Same(g, h) || !grid.Same(g, g.Copy()) {
		t.Error("the same")
	}
	differ := func(what string, change func(h *Grid)) {
		h := g.Copy()
		change(h)
		if grid.Same(g, h) || grid.Same(h, g) {
			t.Errorf("%s: the same", what)
		}
	}
	differ("a row of the cursor", func(h *Grid) { h.Move(2, 2) })
	differ("a column of the cursor", func(h *Grid) { h.Move(1, 1) })
	differ("both", func(h *Grid) { h.Move(2, 1) })
	differ("the first cell", func(h *Grid) { h.Put(0, 0, Cell{R: 'z', W: 1}) })
	differ("the last cell", func(h *Grid) { h.Put(2, 3, Cell{R: 'z', W: 1}) })
	differ("a mark", func(h *Grid) { h.Mark(1, 2, 0x301) })
	differ("a pen", func(h *Grid) { h.Put(2, 3, Cell{R: 'a', W: 1, Pen: Pen{Fore: 1}}) })
	differ("rows", func(h *Grid) { h.Scroll(1, Pen{}) })
	for _, a := range [][2]int{{1, 1}, {1, 2}, {2, 1}, {2, 2}, {1, 4}, {4, 1}} {
		for _, b := range [][2]int{{1, 1}, {1, 2}, {2, 1}, {2, 2}, {1, 4}, {4, 1}} {
			if grid.Same(must(t, a[0], a[1]), must(t, b[0], b[1])) != (a == b) {
				t.Errorf("sizes %v, %v", a, b)
			}
		}
	}
}

// P7.3: of nil false; of what can be made true.
func TestRight(t *testing.T) {
	if grid.Right(nil) {
		t.Error("nil is right")
	}
	g, _ := sample(t)
	if !grid.Right(g) || !grid.Right(must(t, 512, 512)) {
		t.Error("not right")
	}
}

// P7.4, P1: what a nil grid answers, ahead of all else.
func TestNilGrid(t *testing.T) {
	var g *Grid
	if g.Rows() != 0 || g.Cols() != 0 || g.Row() != 0 || g.Col() != 0 {
		t.Error("numbers")
	}
	if g.Copy() != nil || grid.Right(g) || !grid.Same(g, nil) || grid.Same(g, must(t, 1, 1)) {
		t.Error("a copy, right or the same")
	}
	for _, r := range numbers {
		if l := g.Line(r); len(l) != 0 {
			t.Errorf("row %d: %v", r, l)
		}
		for _, c := range numbers {
			if x, ok := g.At(r, c); ok || x != (Cell{}) {
				t.Errorf("%d, %d: %v, %v", r, c, x, ok)
			}
			if f, e := g.Fit(r, c); f != nil || e != 1 {
				t.Errorf("fit to %d, %d: %v, %d", r, c, f, e)
			}
			if g.Put(r, c, plain) || g.Put(r, c, right) || g.Mark(r, c, 0x301) {
				t.Errorf("%d, %d: done", r, c)
			}
			for _, p := range allPens() {
				g.Erase(r, 0, c, p)
				g.Scroll(c, p)
			}
			g.Move(r, c)
		}
		if g.Lay(r, nil) || g.Lay(r, Line{}) || g.Lay(r, Line{plain}) {
			t.Errorf("row %d: laid", r)
		}
	}
}

// step does one thing, by chance, to a grid and to its model, and holds what is told against each other.
func step(t *testing.T, rnd *rand.Rand, g *Grid, m *model) (*Grid, *model) {
	t.Helper()
	number := func() int {
		if rnd.Intn(8) == 0 {
			return numbers[rnd.Intn(len(numbers))]
		}
		return rnd.Intn(9) - 2
	}
	cells := append(append(putable(), putable()...), unputable()...)
	r, c, to := number(), number(), number()
	x, p, q := cells[rnd.Intn(len(cells))], allPens()[rnd.Intn(7)], runes[rnd.Intn(len(runes))]
	var ok, want bool
	switch rnd.Intn(10) {
	case 0, 1, 2:
		ok, want = g.Put(r, c, x), m.put(r, c, x)
	case 3, 4:
		ok, want = g.Mark(r, c, q), m.mark(r, c, q)
	case 5:
		g.Erase(r, c, to, p)
		m.erase(r, c, to, p)
	case 6:
		l := Line{}
		for range rnd.Intn(8) {
			l = append(l, cells[rnd.Intn(16)])
		}
		if rnd.Intn(3) > 0 {
			l = line.Fit(l, m.cols)
		}
		ok, want = g.Lay(r, l), m.lay(r, l)
	case 7:
		g.Move(r, c)
		m.move(r, c)
	case 8:
		g.Scroll(r, p)
		m.scroll(r, p)
	case 9:
		rows, cols := rnd.Intn(9), rnd.Intn(9)
		f, e := g.Fit(rows, cols)
		if there := sized(rows) && sized(cols); there != (e == api.OK) || there != (f != nil) {
			t.Fatalf("%d, %d: %v, %d", rows, cols, f, e)
		} else if there {
			g, m = f, m.fit(rows, cols)
		}
	}
	if ok != want {
		t.Fatalf("%v, not %v", ok, want)
	}
	return g, m
}

// P7.4: whatever is done, one thing behind the other: the grid is right, of its size, its cursor within, and what the chapter says.
func TestManySteps(t *testing.T) {
	rnd := rand.New(rand.NewSource(7))
	for range 300 {
		rows, cols := rnd.Intn(6)+1, rnd.Intn(6)+1
		g, m := must(t, rows, cols), newModel(rows, cols)
		for range 200 {
			before, was := g.Copy(), m.clone()
			g, m = step(t, rnd, g, m)
			check(t, "a step", g, m)
			check(t, "a copy ahead of it", before, was)
			if g.Row() < 0 || g.Row() >= g.Rows() || g.Col() < 0 || g.Col() >= g.Cols() {
				t.Fatalf("the cursor at %d, %d", g.Row(), g.Col())
			}
		}
	}
}

// Copies share nothing with a grid: what is done to one is done to it alone; rows share none with the next ones either.
func TestCopySharesNothing(t *testing.T) {
	work := []func(g *Grid){
		func(g *Grid) { g.Put(1, 0, plain) },
		func(g *Grid) { g.Mark(0, 0, 0x301) },
		func(g *Grid) { g.Erase(2, 0, 4, ink) },
		func(g *Grid) { g.Lay(0, blanks(4, ink)) },
		func(g *Grid) { g.Move(0, 0) },
		func(g *Grid) { g.Scroll(1, ink) },
		func(g *Grid) { g.Scroll(-1, ink); g.Put(0, 0, full); g.Put(2, 0, full) },
		func(g *Grid) { g.Scroll(3, ink) },
	}
	for _, do := range work {
		g, m := sample(t)
		same, f := g.Copy(), g
		fit, _ := g.Fit(3, 4)
		do(same)
		check(t, "a copy was worked at", g, m)
		do(fit)
		check(t, "what was fit was worked at", g, m)
		if !grid.Same(same, fit) {
			t.Error("they differ")
		}
		kept := g.Copy()
		do(f)
		check(t, "the grid was worked at", kept, m)
	}
}

// What Line tells is new, and what Lay is handed isn't kept nor changed, spare room counted.
func TestLinesAreNotShared(t *testing.T) {
	stain := Cell{R: 'q', W: 9}
	g, m := sample(t)
	g.Scroll(1, dye)
	m.scroll(1, dye)
	for r := range 3 {
		l, k := g.Line(r), g.Line(r)
		kept := slices.Clone(k)
		l = l[:cap(l)]
		for i := range l {
			l[i] = stain
		}
		if !slices.Equal(k, kept) {
			t.Errorf("row %d: answers share memory", r)
		}
	}
	check(t, "lines stained", g, m)
	for r := range 3 {
		roomy := Line{leftI, rightI, plain, full, stain, stain}
		given, before := roomy[:4], slices.Clone(roomy)
		if !g.Lay(r, given) || !m.lay(r, given) {
			t.Fatal("not laid")
		}
		kept := slices.Clone(given)
		given[2] = full
		check(t, "what was laid changed", g, m)
		copy(given, kept)
		g.Put(r, 1, full)
		m.put(r, 1, full)
		g.Erase(r, 3, 9, ink)
		m.erase(r, 3, 9, ink)
		if !slices.Equal(roomy, before) {
			t.Errorf("row %d: what was handed in became %v", r, roomy)
		}
		for i := range roomy {
			roomy[i] = stain
		}
		check(t, "what was laid stained", g, m)
	}
	// Rows that are laid from one list share nothing with one another.
	l := Line{plain, plain, plain, plain}
	for r := range 3 {
		g.Lay(r, l)
		m.lay(r, l)
	}
	g.Put(1, 1, full)
	m.put(1, 1, full)
	check(t, "one of three", g, m)
	if g.Lay(0, g.Line(1)); !slices.Equal(g.Line(0), g.Line(1)) {
		t.Error("a row of the grid's own")
	}
}

// The chapter's example.
func TestExample(t *testing.T) {
	g := must(t, 2, 3)
	a, _ := cell.Of('a', Pen{})
	if !g.Put(0, 0, a) {
		t.Error("not put")
	}
	g.Scroll(-1, Pen{})
	if x, ok := g.At(1, 0); !ok || x != a || line.Text(g.Line(0)) != "   " || line.Text(g.Line(1)) != "a  " {
		t.Error(x, ok)
	}
	f, e := g.Fit(1, 2)
	if e != api.OK || f.Rows() != 1 || !line.Same(f.Line(0), line.New(2)) {
		t.Error(e)
	}
}

// P2: the same calls in the same order have the same answers.
func TestSameAnswers(t *testing.T) {
	run := func() []*Grid {
		rnd := rand.New(rand.NewSource(21))
		g, m := must(t, 4, 5), newModel(4, 5)
		var seen []*Grid
		for range 500 {
			g, m = step(t, rnd, g, m)
			seen = append(seen, g.Copy())
		}
		return seen
	}
	a, b := run(), run()
	if !slices.EqualFunc(a, b, grid.Same) {
		t.Error("other answers")
	}
}

// P1: no call panics, and what the chapter says holds, at all arguments.
func FuzzGrid(f *testing.F) {
	f.Add(int64(1), 3, 4, 1, 1, 2, rune('a'), byte(1), rune(0x301))
	f.Add(int64(2), 1, 1, 0, 0, -1, rune(0x3042), byte(2), rune('x'))
	f.Add(int64(3), 513, 0, math.MinInt, math.MaxInt, math.MinInt, rune(-1), byte(255), rune(-1))
	f.Add(int64(4), 12, 2, -1, 2, 512, rune(0), byte(0), rune(0x200b))
	f.Fuzz(func(t *testing.T, seed int64, rows, cols, r, c, n int, of rune, w byte, q rune) {
		g, e := grid.New(rows, cols)
		if (e == api.OK) != (sized(rows) && sized(cols)) || (e == api.OK) != (g != nil) {
			t.Fatalf("%d, %d: %v, %d", rows, cols, g, e)
		}
		if e != api.OK || rows*cols > 4000 {
			return
		}
		m := newModel(rows, cols)
		rnd := rand.New(rand.NewSource(seed))
		for range 20 {
			g, m = step(t, rnd, g, m)
		}
		x := Cell{R: of, W: w, Pen: Pen{Flags: w}}
		if g.Put(r, c, x) != m.put(r, c, x) || g.Mark(r, c, q) != m.mark(r, c, q) {
			t.Errorf("%v at %d, %d", x, r, c)
		}
		check(t, "put", g, m)
		g.Erase(r, c, n, x.Pen)
		m.erase(r, c, n, x.Pen)
		g.Move(r, c)
		m.move(r, c)
		g.Scroll(n, x.Pen)
		m.scroll(n, x.Pen)
		check(t, "scrolled", g, m)
		h, e := g.Fit(r, n)
		if (e == api.OK) != (sized(r) && sized(n)) {
			t.Errorf("fit to %d, %d: %d", r, n, e)
		}
		if e == api.OK {
			check(t, "fit", h, m.fit(r, n))
		}
		check(t, "copied", g.Copy(), m)
	})
}
