package emu

import (
	"prolepsis/cell"
	"prolepsis/grid"
	"prolepsis/pen"
)

// screen is an emulator's grid, by calls that stay within: the grid's own would be the emulator's as well, and change it beside its events.
type screen struct{ cells *grid.Grid }

// room: how many columns there are from the cursor's on.
func (s *screen) room() int { return s.cells.Cols() - s.cells.Col() }

// stepBy: the cursor goes so many rows lower, and columns further right.
func (s *screen) stepBy(rows, cols int) { s.cells.Move(s.cells.Row()+rows, s.cells.Col()+cols) }

// toColumn: the cursor goes to a column of its row.
func (s *screen) toColumn(c int) { s.cells.Move(s.cells.Row(), c) }

// feed: the cursor goes a row lower, for which the rows move up, if it is in the last one.
func (s *screen) feed(blank pen.Pen) {
	if s.cells.Row() == s.cells.Rows()-1 {
		s.cells.Scroll(1, blank)
		return
	}
	s.stepBy(1, 0)
}

// put: a cell stands at the cursor.
func (s *screen) put(c cell.Cell) { s.cells.Put(s.cells.Row(), s.cells.Col(), c) }

// mark: the cell of a column of the cursor's row has a mark more.
func (s *screen) mark(c int, r rune) { s.cells.Mark(s.cells.Row(), c, r) }

// eraser: blanks stand from a row, or column, to another one, that not counted.
type eraser func(from, to int)

// columns: what erases columns of the cursor's row.
func (s *screen) columns(blank pen.Pen) eraser {
	return func(from, to int) { s.cells.Erase(s.cells.Row(), from, to, blank) }
}

// rows: what erases whole rows.
func (s *screen) rows(blank pen.Pen) eraser {
	return func(from, to int) {
		for r := from; r < to; r++ {
			s.cells.Erase(r, 0, s.cells.Cols(), blank)
		}
	}
}
