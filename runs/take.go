package runs

import (
	"math"
	"slices"

	"prolepsis/api"
	"prolepsis/cell"
	"prolepsis/num"
	"prolepsis/pen"
)

// What numbers of a cell may be at most.
const (
	mostW    = 2
	mostRune = 0x10ffff
)

// noMark stands in the place of a mark that isn't there.
const noMark = 0

// Parse: the cells of bytes.
func Parse(b []byte) ([]cell.Cell, api.Errno) {
	r := num.New(b)
	l := Take(r)
	if e := r.Done(); e != api.OK {
		return nil, e
	}
	return l, api.OK
}

// Take: the cells that a reader tells.
func Take(r *num.Reader) []cell.Cell {
	var l []cell.Cell
	for range r.Some(api.MaxSide) {
		often := takeOften(r, api.MaxSide-len(l))
		c := takeCell(r)
		if len(l) > 0 && c == l[len(l)-1] {
			// The one ahead would have told this run's cells too.
			r.Fail(api.ErrForm)
		}
		if r.Err() != api.OK {
			return nil
		}
		l = append(l, slices.Repeat([]cell.Cell{c}, often)...)
	}
	return l
}

// takeOften: how often a run's cell stands there, with room for so many.
func takeOften(r *num.Reader, room int) int {
	often := r.Some(room)
	if often == 0 {
		r.Fail(api.ErrForm)
	}
	return often
}

// takeCell: the cell that is told next.
func takeCell(r *num.Reader) cell.Cell {
	var c cell.Cell
	c.W = uint8(r.Upto(mostW))
	c.Pen = takePen(r)
	whole := true
	if c.W != rightHalf {
		c.R = takeRune(r)
		c.M, whole = takeMarks(r)
	}
	if !whole || !cell.Right(c) {
		r.Fail(api.ErrForm)
	}
	return c
}

// takePen: the pen whose number is told next.
func takePen(r *num.Reader) pen.Pen {
	p, ok := pen.Of(r.Upto(math.MaxInt))
	if !ok {
		r.Fail(api.ErrRange)
	}
	return p
}

// takeRune: what is told next, a cell's rune or one of its marks.
func takeRune(r *num.Reader) rune { return rune(r.Upto(mostRune)) }

// takeMarks: the marks that are told next, and whether each of them is there: what is wrong with one shows only behind all of them.
func takeMarks(r *num.Reader) ([api.MaxMarks]rune, bool) {
	var marks [api.MaxMarks]rune
	told := marks[:r.Some(api.MaxMarks)]
	for i := range told {
		told[i] = takeRune(r)
	}
	return marks, !slices.Contains(told, noMark)
}
