package emu_test

import (
	"slices"
	"testing"

	"prolepsis/api"
	"prolepsis/cell"
	"prolepsis/emu"
	"prolepsis/grid"
	"prolepsis/line"
	"prolepsis/parse"
	"prolepsis/pen"
	"prolepsis/width"
)

type (
	Cell  = cell.Cell
	Line  = []cell.Cell
	Pen   = pen.Pen
	Event = parse.Event
)

func printed(r rune) Event            { return Event{Kind: 1, R: r} }
func controlled(r rune) Event         { return Event{Kind: 2, R: r} }
func sequence(r rune, n ...int) Event { return Event{Kind: 3, R: r, N: n} }

// placed: the event that moves the cursor to a place.
func placed(r, c int) Event { return sequence('H', r+1, c+1) }

// model is an emulator by the chapter's words, without its parser.
type model struct {
	rows, cols, row, col int
	cells                []Line
	pen                  Pen
	wrap                 bool
}

func blankOf(p Pen) Cell { return Cell{R: 0x20, W: 1, Pen: p} }

func blanks(n int, p Pen) Line { return slices.Repeat(Line{blankOf(p)}, n) }

func newModel(rows, cols int) *model {
	m := &model{rows: rows, cols: cols}
	for range rows {
		m.cells = append(m.cells, blanks(cols, Pen{}))
	}
	return m
}

func (m *model) clone() *model {
	c := *m
	c.cells = nil
	for _, l := range m.cells {
		c.cells = append(c.cells, slices.Clone(l))
	}
	return &c
}

func (m *model) blankPen() Pen { return Pen{Back: m.pen.Back} }

func (m *model) do(l ...Event) *model {
	for _, x := range l {
		switch x.Kind {
		case 1:
			m.print(x.R)
		case 2:
			m.control(x.R)
		case 3:
			m.sequence(x)
		}
	}
	return m
}

func (m *model) feed() {
	if m.row < m.rows-1 {
		m.row++
		return
	}
	m.cells = append(slices.Clone(m.cells[1:]), blanks(m.cols, m.blankPen()))
}

func (m *model) print(r rune) {
	w := width.Of(r)
	switch {
	case w == 0 && m.wrap:
		m.cells[m.row], _ = line.Mark(m.cells[m.row], m.col, r)
	case w == 0 && m.col > 0:
		m.cells[m.row], _ = line.Mark(m.cells[m.row], m.col-1, r)
	case w == 1 || w == 2 && m.cols >= 2:
		m.show(r, w)
	}
}

func (m *model) show(r rune, w int) {
	if m.wrap || m.cols-m.col < w {
		m.col = 0
		m.feed()
	}
	m.cells[m.row], _ = line.Put(m.cells[m.row], m.col, Cell{R: r, W: uint8(w), Pen: m.pen})
	m.col += w
	m.wrap = false
	if m.col == m.cols {
		m.col--
		m.wrap = true
	}
}

func (m *model) control(r rune) {
	switch r {
	case 0xd:
		m.col = 0
	case 0xa:
		m.feed()
	case 8:
		if m.col > 0 {
			m.col--
		}
	default:
		return
	}
	m.wrap = false
}

// number: the one at that place, if there is one, and it is more than -1 (none); else what stands for none.
func number(x Event, at, none int) int {
	if at < len(x.N) && x.N[at] != -1 {
		return x.N[at]
	}
	return none
}

// counted: the number at that place, or 1, if it is below that.
func counted(x Event, at int) int { return max(1, number(x, at, 1)) }

// step: a place of so many, one further by one step, so often, as long as there is one.
func step(at, by, often, count int) int {
	for i := 0; i < often && at+by >= 0 && at+by < count; i++ {
		at += by
	}
	return at
}

func (m *model) sequence(x Event) {
	n := counted(x, 0)
	switch x.R {
	case 'A':
		m.row = step(m.row, -1, n, m.rows)
	case 'B':
		m.row = step(m.row, 1, n, m.rows)
	case 'C':
		m.col = step(m.col, 1, n, m.cols)
	case 'D':
		m.col = step(m.col, -1, n, m.cols)
	case 'H':
		m.row, m.col = step(0, 1, n-1, m.rows), step(0, 1, counted(x, 1)-1, m.cols)
	case 'J':
		m.erase(number(x, 0, 0), 0, m.rows)
		return
	case 'K':
		m.erase(number(x, 0, 0), m.row, m.row+1)
		return
	case 'm':
		m.turn(x.N)
		return
	default:
		return
	}
	m.wrap = false
}

// erase goes through all places of some rows, in the order in which they are read, which says on which side of the cursor they are.
func (m *model) erase(k, firstRow, endRow int) {
	cursor := m.row*m.cols + m.col
	for r := firstRow; r < endRow; r++ {
		for c := range m.cols {
			at := r*m.cols + c
			if k == 0 && at >= cursor || k == 1 && at <= cursor || k == 2 {
				m.cells[r][c] = blankOf(m.blankPen())
			}
		}
		m.cells[r] = line.Mend(m.cells[r])
	}
}

func (m *model) turn(l []int) {
	if len(l) == 0 {
		m.pen = Pen{}
	}
	for _, n := range l {
		if n == -1 {
			n = 0
		}
		m.pen = pen.Turn(m.pen, n)
	}
}

func (m *model) resize(rows, cols int) api.Errno {
	if rows < 1 || rows > 512 || cols < 1 || cols > 512 {
		return api.ErrSize
	}
	f := newModel(rows, cols)
	for r := range min(rows, m.rows) {
		f.cells[r] = line.Fit(m.cells[r], cols)
	}
	f.row, f.col, f.pen = min(m.row, rows-1), min(m.col, cols-1), m.pen
	*m = *f
	return api.OK
}

// check: an emulator is what the model says, by all that can be told of it but the parser; and its grid is right, as P9.3 has it.
func check(t *testing.T, what any, e *emu.Emu, m *model) {
	t.Helper()
	g := e.Grid()
	if g.Rows() != m.rows || g.Cols() != m.cols || g.Row() != m.row || g.Col() != m.col {
		t.Fatalf("%v: %d, %d, the cursor %d, %d; not %d, %d, %d, %d", what, g.Rows(), g.Cols(), g.Row(), g.Col(), m.rows, m.cols, m.row, m.col)
	}
	for r, l := range m.cells {
		if have := g.Line(r); !slices.Equal(have, l) {
			t.Fatalf("%v: row %d: %v, not %v", what, r, have, l)
		}
	}
	if e.Pen() != m.pen || e.Wrap() != m.wrap {
		t.Fatalf("%v: %v, %v; not %v, %v", what, e.Pen(), e.Wrap(), m.pen, m.wrap)
	}
	if !grid.Right(g) {
		t.Fatalf("%v: not right", what)
	}
}

// must: an emulator of a size that may be.
func must(t *testing.T, rows, cols int) *emu.Emu {
	t.Helper()
	e, f := emu.New(rows, cols)
	if f != api.OK || e == nil {
		t.Fatalf("%d, %d: %v, %d", rows, cols, e, f)
	}
	return e
}

// both: an emulator and a model of a size.
func both(t *testing.T, rows, cols int) (*emu.Emu, *model) {
	t.Helper()
	return must(t, rows, cols), newModel(rows, cols)
}

// same: two emulators are, by all that can be told of them.
func same(a, b *emu.Emu) bool {
	return grid.Same(a.Grid(), b.Grid()) && a.Pen() == b.Pen() && a.Wrap() == b.Wrap() && a.Rest() == b.Rest()
}
