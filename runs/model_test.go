package runs_test

import (
	"slices"

	"prolepsis/api"
	"prolepsis/cell"
	"prolepsis/num"
	"prolepsis/pen"
)

type (
	Cell = cell.Cell
	Pen  = pen.Pen
	Line = []cell.Cell
)

// The pens of the tests: one that has no color, the greatest one, and one that isn't right.
var (
	bold  = Pen{Flags: 1}
	dye   = Pen{Flags: 31, Fore: 16, Back: 16}
	wrong = Pen{Flags: 32, Fore: 17, Back: 255}
)

// rightCells: of each W, with no marks, one and two, of several pens; each differs from another one in one thing alone.
func rightCells() Line {
	return Line{
		{R: ' ', W: 1},
		{R: 'a', W: 1},
		{R: 'a', M: [2]rune{0x301}, W: 1},
		{R: 'a', M: [2]rune{0x302}, W: 1},
		{R: 'a', M: [2]rune{0x301, 0x301}, W: 1},
		{R: 'a', M: [2]rune{0x301, 0xfe0f}, W: 1},
		{R: 'a', W: 1, Pen: bold},
		{R: 0x10ffff, W: 1, Pen: dye},
		{R: 0x3042, W: 2},
		{R: 0x3042, M: [2]rune{0x301}, W: 2},
		{R: 0x3042, M: [2]rune{0x301, 0x200b}, W: 2, Pen: bold},
		{R: 0x1f600, W: 2, Pen: dye},
		{},
		{Pen: bold},
		{Pen: dye},
		{Pen: Pen{Fore: 2}},
		{Pen: Pen{Back: 2}},
	}
}

// wrongCells: each thing that may be wrong with a cell.
func wrongCells() Line {
	return Line{
		{R: 7, W: 1},
		{R: 0x301, W: 1},
		{R: 0xd800, W: 1},
		{R: 0x110000, W: 1},
		{R: -1, W: 1},
		{R: 0x3042, W: 1},
		{R: 'a', W: 2},
		{R: 'a', W: 3},
		{R: 'a', W: 255},
		{W: 3},
		{W: 1},
		{R: 'a'},
		{M: [2]rune{0x301}},
		{M: [2]rune{0, 0x301}},
		{R: 'a', M: [2]rune{0, 0x301}, W: 1},
		{R: 'a', M: [2]rune{'b'}, W: 1},
		{R: 'a', M: [2]rune{0x301, 'b'}, W: 1},
		{R: 'a', M: [2]rune{-1}, W: 1},
		{R: 'a', W: 1, Pen: wrong},
		{R: 'a', W: 1, Pen: Pen{Flags: 32}},
		{R: 'a', W: 1, Pen: Pen{Fore: 17}},
		{R: 'a', W: 1, Pen: Pen{Back: 17}},
		{R: 0x3042, W: 2, Pen: Pen{Back: 17}},
		{Pen: wrong},
	}
}

// times: a cell, so often.
func times(n int, c Cell) Line { return slices.Repeat(Line{c}, n) }

// inTurn: so many cells, of two in turn, so that each is a run of its own.
func inTurn(n int, a, b Cell) Line {
	l := times(n, a)
	for i := 1; i < n; i += 2 {
		l[i] = b
	}
	return l
}

// changes: how many runs cells have, by what the chapter says of the fewest.
func changes(l Line) int {
	n := 0
	for i, c := range l {
		if i == 0 || c != l[i-1] {
			n++
		}
	}
	return n
}

// numbersOf: what the chapter says of right cells' numbers.
func numbersOf(l Line) []int {
	numbers := []int{changes(l)}
	for i := 0; i < len(l); {
		c, often := l[i], 0
		for ; i < len(l) && l[i] == c; i++ {
			often++
		}
		numbers = append(numbers, often, int(c.W), int(c.Pen.Flags)+32*int(c.Pen.Fore)+1024*int(c.Pen.Back))
		switch {
		case c.W == 0:
		case c.M[0] == 0:
			numbers = append(numbers, int(c.R), 0)
		case c.M[1] == 0:
			numbers = append(numbers, int(c.R), 1, int(c.M[0]))
		default:
			numbers = append(numbers, int(c.R), 2, int(c.M[0]), int(c.M[1]))
		}
	}
	return numbers
}

// toldBy: numbers' bytes.
func toldBy(numbers ...int) []byte {
	var b []byte
	for _, n := range numbers {
		for ; n >= 128; n /= 128 {
			b = append(b, byte(n%128+128))
		}
		b = append(b, byte(n))
	}
	return b
}

// taking goes through bytes number by number, as the chapter says it, up to the first error.
type taking struct {
	left []byte
	e    api.Errno
}

// fail: the first error stays.
func (k *taking) fail(wrong bool, e api.Errno) {
	if wrong && k.e == api.OK {
		k.e = e
	}
}

// number: the next one, with e if it is more than most.
func (k *taking) number(most uint64, e api.Errno) int {
	if k.e != api.OK {
		return 0
	}
	n, size, wrong := num.Read(k.left)
	k.left = k.left[size:]
	k.fail(wrong != api.OK, wrong)
	k.fail(n > most, e)
	if k.e != api.OK {
		return 0
	}
	return int(n)
}

// run: the next one, behind those that are told by the list.
func (k *taking) run(l Line) Line {
	const mostInt = 1<<63 - 1
	often := k.number(mostInt, api.ErrMany)
	k.fail(often == 0, api.ErrForm)
	k.fail(often > 512-len(l), api.ErrMany)
	var c Cell
	c.W = uint8(k.number(2, api.ErrRange))
	n := k.number(mostInt, api.ErrRange)
	c.Pen = Pen{Flags: uint8(n % 32), Fore: uint8(n / 32 % 32), Back: uint8(n / 1024 % 32)}
	k.fail(n/32%32 > 16 || n/1024 > 16, api.ErrRange)
	noMarks := false
	if c.W > 0 {
		c.R = rune(k.number(0x10ffff, api.ErrRange))
		for i := range k.number(2, api.ErrMany) {
			c.M[i] = rune(k.number(0x10ffff, api.ErrRange))
			noMarks = noMarks || c.M[i] == 0
		}
	}
	k.fail(!cell.Right(c) || noMarks, api.ErrForm)
	k.fail(len(l) > 0 && l[len(l)-1] == c, api.ErrForm)
	if k.e != api.OK {
		return nil
	}
	return append(l, times(often, c)...)
}

// taken: what the chapter says of Take: the cells, how many bytes are left, and the error.
func taken(b []byte) (Line, int, api.Errno) {
	k := &taking{left: b}
	var l Line
	for range k.number(512, api.ErrMany) {
		l = k.run(l)
		if k.e != api.OK {
			return nil, 0, k.e
		}
	}
	return l, len(k.left), k.e
}

// parsed: what the chapter says of Parse.
func parsed(b []byte) (Line, api.Errno) {
	l, left, e := taken(b)
	if e == api.OK && left > 0 {
		return nil, api.ErrForm
	}
	return l, e
}
