package emu

import (
	"prolepsis/api"
	"prolepsis/cell"
	"prolepsis/parse"
	"prolepsis/pen"
	"prolepsis/width"
)

// The controls that do something.
const (
	backspace = 0x08
	lineFeed  = 0x0a
	toStart   = 0x0d
)

// Which part is erased, by a sequence's number.
const (
	fromCursor = 0
	upToCursor = 1
	whole      = 2
)

// sequences: what each does, by its final byte.
func sequences() map[rune]func(*Emu, parse.Event) {
	return map[rune]func(*Emu, parse.Event){
		'A': (*Emu).up,
		'B': (*Emu).down,
		'C': (*Emu).right,
		'D': (*Emu).left,
		'H': (*Emu).place,
		'J': (*Emu).eraseRows,
		'K': (*Emu).eraseRow,
		'm': (*Emu).turn,
	}
}

// sequence: what one does.
func (e *Emu) sequence(x parse.Event) {
	if do, ok := sequences()[x.R]; ok {
		do(e, x)
	}
}

// print: what a scalar does.
func (e *Emu) print(r rune) {
	if width.Mark(r) {
		e.addMark(r)
		return
	}
	c, ok := cell.Of(r, e.pen)
	if w := int(c.W); ok && w <= e.cells.Cols() {
		e.show(c, w)
	}
}

// show: a cell of a width that some row can take is put, and the cursor goes on.
func (e *Emu) show(c cell.Cell, w int) {
	if e.wrap || w > e.room() {
		e.toColumn(0)
		e.feed(e.blank())
	}
	e.put(c)
	e.wrap = w == e.room()
	e.stepBy(0, w)
}

// addMark: the cell that was printed last, if the cursor was not moved since, has a mark more.
func (e *Emu) addMark(r rune) {
	at := e.cells.Col()
	if !e.wrap {
		at--
	}
	e.mark(at, r)
}

// control: what one does.
func (e *Emu) control(r rune) {
	switch r {
	case toStart:
		e.toColumn(0)
	case lineFeed:
		e.feed(e.blank())
	case backspace:
		e.stepBy(0, -1)
	default:
		return
	}
	e.wrap = false
}

func (e *Emu) up(x parse.Event)    { e.walk(-ordinal(x, 0), 0) }
func (e *Emu) down(x parse.Event)  { e.walk(ordinal(x, 0), 0) }
func (e *Emu) right(x parse.Event) { e.walk(0, ordinal(x, 0)) }
func (e *Emu) left(x parse.Event)  { e.walk(0, -ordinal(x, 0)) }

// walk: a sequence moves the cursor by so many rows and columns.
func (e *Emu) walk(rows, cols int) {
	e.stepBy(rows, cols)
	e.wrap = false
}

// place: a sequence tells where the cursor is.
func (e *Emu) place(x parse.Event) {
	e.cells.Move(ordinal(x, 0)-1, ordinal(x, 1)-1)
	e.wrap = false
}

// eraseRows: of the cursor's row the same as eraseRow does, and the rows on that side of it.
func (e *Emu) eraseRows(x parse.Event) {
	row, erase := e.cells.Row(), e.rows(e.blank())
	switch part(x) {
	case fromCursor:
		erase(row+1, e.cells.Rows())
	case upToCursor:
		erase(0, row)
	case whole:
		erase(0, e.cells.Rows())
	}
	e.eraseRow(x)
}

// eraseRow: a part of the cursor's row is blank.
func (e *Emu) eraseRow(x parse.Event) {
	col, erase := e.cells.Col(), e.columns(e.blank())
	switch part(x) {
	case fromCursor:
		erase(col, e.cells.Cols())
	case upToCursor:
		erase(0, col+1)
	case whole:
		erase(0, e.cells.Cols())
	}
}

// turn: the pen is another one.
func (e *Emu) turn(x parse.Event) {
	l := make([]int, len(x.N))
	for i := range l {
		l[i] = parse.Number(x, i, 0)
	}
	e.pen = pen.Turn(e.pen, l...)
}

// blank: the pen of what is erased.
func (e *Emu) blank() pen.Pen { return pen.Pen{Back: e.pen.Back} }

// ordinal: a sequence's number of rows or columns, or one of them, counted from 1 on. No grid has more of them than MaxSide: a greater number does the same, and could be too great to add.
func ordinal(x parse.Event, at int) int {
	return min(max(parse.Number(x, at, 1), 1), api.MaxSide)
}

// part: a sequence's number of what is erased.
func part(x parse.Event) int { return parse.Number(x, 0, fromCursor) }
