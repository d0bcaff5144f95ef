package delta_test

import (
	"bytes"
	"math/rand"
	"slices"
	"testing"

	"prolepsis/api"
	"prolepsis/cell"
	"prolepsis/delta"
	"prolepsis/diff"
	"prolepsis/num"
	"prolepsis/pen"
	"prolepsis/runs"
)

type (
	Cell = cell.Cell
	Line = []cell.Cell
	Pen  = pen.Pen
	Diff = diff.Diff
	Span = diff.Span
)

// ink is a pen of each kind of thing, the greatest of each.
var ink = Pen{Flags: 31, Fore: 16, Back: 16}

// The cells of the tests: each differs from another one in its marks, its W or its pen alone.
var (
	blank = Cell{R: ' ', W: 1}
	a     = Cell{R: 'a', W: 1}
	aI    = Cell{R: 'a', W: 1, Pen: ink}
	b     = Cell{R: 'b', W: 1}
	one   = Cell{R: 'a', M: [2]rune{0x301}, W: 1}
	two   = Cell{R: 'a', M: [2]rune{0x301, 0x302}, W: 1}
	left  = Cell{R: 0x3042, W: 2}
	leftI = Cell{R: 0x3042, M: [2]rune{0x301}, W: 2, Pen: ink}
	right = Cell{}
	rest  = Cell{Pen: ink}
)

// allCells: those above.
func allCells() Line { return Line{blank, a, aI, b, one, two, left, leftI, right, rest} }

// wrongCells: cells that aren't right, each by one thing alone.
func wrongCells() Line {
	return Line{
		{R: 'a', W: 3},
		{R: 'a', W: 2},
		{R: 0x3042, W: 1},
		{R: 'a'},
		{R: 7, W: 1},
		{R: -1, W: 1},
		{R: 0xd800, W: 1},
		{R: 0x301, W: 1},
		{R: 'a', M: [2]rune{0, 0x301}, W: 1},
		{R: 'a', M: [2]rune{'b'}, W: 1},
		{M: [2]rune{0x301}},
		{R: 'a', W: 1, Pen: Pen{Flags: 32}},
		{R: 'a', W: 1, Pen: Pen{Fore: 17}},
		{R: 'a', W: 1, Pen: Pen{Back: 17}},
	}
}

// times: a cell, so often.
func times(n int, c Cell) Line { return slices.Repeat(Line{c}, n) }

// inTurn: so many cells, of two in turn, so that each is a run of its own.
func inTurn(n int, c, d Cell) Line {
	l := times(n, c)
	for i := 1; i < n; i += 2 {
		l[i] = d
	}
	return l
}

// span: cells from that place on.
func span(row, col int, l Line) Span { return Span{Row: row, Col: col, Cells: l} }

// made: a difference of that size, with that cursor.
func made(rows, cols, row, col int, l ...Span) Diff {
	return Diff{Rows: rows, Cols: cols, Row: row, Col: col, Spans: l}
}

// spanEach: a difference of so many rows, each of which has a span of these cells, from that column on.
func spanEach(rows, cols, col int, l Line) Diff {
	d := Diff{Rows: rows, Cols: cols}
	for r := range rows {
		d.Spans = append(d.Spans, span(r, col, slices.Clone(l)))
	}
	return d
}

// cloneDiff: a difference that shares nothing with another one.
func cloneDiff(d Diff) Diff {
	d.Spans = slices.Clone(d.Spans)
	for i := range d.Spans {
		d.Spans[i].Cells = slices.Clone(d.Spans[i].Cells)
	}
	return d
}

// toldBy: numbers' bytes.
func toldBy(numbers ...int) []byte {
	var b []byte
	for _, n := range numbers {
		for ; n >= 128; n /= 128 {
			b = append(b, byte(n%128+128))
		}
		b = append(b, byte(n))
	}
	return b
}

// numbersOf: what the chapter says of the numbers of a difference that nothing is wrong with.
func numbersOf(d Diff) []int {
	numbers := []int{d.Rows, d.Cols, d.Row, d.Col, len(d.Spans)}
	for _, s := range d.Spans {
		numbers = append(append(numbers, s.Row, s.Col), runNumbers(s.Cells)...)
	}
	return numbers
}

// runNumbers: what chapter 10 says of right cells' numbers.
func runNumbers(l Line) []int {
	numbers := []int{0}
	for i := 0; i < len(l); {
		c, often := l[i], 0
		for ; i < len(l) && l[i] == c; i++ {
			often++
		}
		numbers[0]++
		numbers = append(numbers, often, int(c.W), int(c.Pen.Flags)+32*int(c.Pen.Fore)+1024*int(c.Pen.Back))
		switch {
		case c.W == 0:
		case c.M[0] == 0:
			numbers = append(numbers, int(c.R), 0)
		case c.M[1] == 0:
			numbers = append(numbers, int(c.R), 1, int(c.M[0]))
		default:
			numbers = append(numbers, int(c.R), 2, int(c.M[0]), int(c.M[1]))
		}
	}
	return numbers
}

// checked: what chapter 11 says is wrong with a difference.
func checked(d Diff) api.Errno {
	if d.Rows < 1 || d.Rows > 512 || d.Cols < 1 || d.Cols > 512 {
		return 11
	}
	if d.Row < 0 || d.Row > d.Rows-1 || d.Col < 0 || d.Col > d.Cols-1 {
		return 5
	}
	for i, s := range d.Spans {
		if i > 0 && s.Row <= d.Spans[i-1].Row {
			return 17
		}
		if s.Row < 0 || s.Row > d.Rows-1 || s.Col < 0 || s.Col > d.Cols-1 || len(s.Cells) > d.Cols-s.Col {
			return 5
		}
		if len(s.Cells) == 0 {
			return 3
		}
	}
	return 0
}

// told: what the chapter says of Bytes.
func told(d Diff) ([]byte, api.Errno) {
	if e := checked(d); e != 0 {
		return nil, e
	}
	for _, s := range d.Spans {
		for _, c := range s.Cells {
			if !cell.Right(c) {
				return nil, 1
			}
		}
	}
	return toldBy(numbersOf(d)...), 0
}

// taking goes through bytes number by number, as the chapter says it, up to the first error.
type taking struct {
	b  []byte
	at int
	e  api.Errno
}

// number: the next one, with e if it is more than most.
func (k *taking) number(most uint64, e api.Errno) int {
	if k.e != 0 {
		return 0
	}
	n, size, wrong := num.Read(k.b[k.at:])
	switch {
	case wrong != 0:
		k.e = wrong
	case n > most:
		k.e = e
	default:
		k.at += size
		return int(n)
	}
	return 0
}

// cells: the next ones, by chapter 10.
func (k *taking) cells() Line {
	if k.e != 0 {
		return nil
	}
	r := num.New(k.b[k.at:])
	l := runs.Take(r)
	k.at += r.At()
	k.e = r.Err()
	return l
}

// taken: what the chapter says of Take: the difference, the place, and the error.
func taken(b []byte) (Diff, int, api.Errno) {
	k := &taking{b: b}
	var d Diff
	d.Rows = k.number(512, 5)
	d.Cols = k.number(512, 5)
	d.Row = k.number(512, 5)
	d.Col = k.number(512, 5)
	for n := k.number(512, 6); n > 0 && k.e == 0; n-- {
		var s Span
		s.Row = k.number(512, 5)
		s.Col = k.number(512, 5)
		s.Cells = k.cells()
		d.Spans = append(d.Spans, s)
	}
	if k.e == 0 {
		k.e = checked(d)
	}
	if k.e != 0 {
		return Diff{}, k.at, k.e
	}
	return d, k.at, 0
}

// parsed: what the chapter says of Parse.
func parsed(b []byte) (Diff, api.Errno) {
	d, at, e := taken(b)
	if e == 0 && at < len(b) {
		return Diff{}, 3
	}
	return d, e
}

// zero: nothing is told beside an error.
func zero(d Diff) bool {
	return d.Rows == 0 && d.Cols == 0 && d.Row == 0 && d.Col == 0 && len(d.Spans) == 0
}

// agrees: Parse and Take of any bytes are what the chapter says; what was parsed is told by just these bytes.
func agrees(t *testing.T, b []byte) {
	t.Helper()
	was := slices.Clone(b)
	want, at, e := taken(b)
	r := num.New(b)
	d := delta.Take(r)
	if r.Err() != e || r.At() != at || !diff.Same(d, want) {
		t.Fatalf("%v: %v, the reader's %d at %d, not %v, %d at %d", b, d, r.Err(), r.At(), want, e, at)
	}
	want, e = parsed(b)
	d, got := delta.Parse(b)
	if got != e || !diff.Same(d, want) {
		t.Fatalf("%v: %v, %d, not %v, %d", b, d, got, want, e)
	}
	if !bytes.Equal(b, was) {
		t.Fatalf("%v: is %v now", was, b)
	}
	if e != 0 {
		return
	}
	if again, e := delta.Bytes(d); e != 0 || !bytes.Equal(again, b) {
		t.Fatalf("%v: told again as %v, %d", b, again, e)
	}
}

// agreesTold: Bytes of any difference is what the chapter says; what was told is parsed as it was.
func agreesTold(t *testing.T, d Diff) {
	t.Helper()
	was := cloneDiff(d)
	want, e := told(d)
	b, got := delta.Bytes(d)
	if got != e || !bytes.Equal(b, want) {
		t.Fatalf("%v: %v, %d, not %v, %d", d, b, got, want, e)
	}
	if !diff.Same(d, was) {
		t.Fatalf("%v: is %v now", was, d)
	}
	if e == 0 {
		parsedAs(t, b, d)
	}
}

// parsedAs: the bytes tell the difference, and a reader takes just these.
func parsedAs(t *testing.T, b []byte, d Diff) {
	t.Helper()
	if x, e := delta.Parse(b); e != 0 || !diff.Same(x, d) {
		t.Fatalf("%v: parsed as %v, %d", b, x, e)
	}
	r := num.New(append(slices.Clone(b), 7))
	if x := delta.Take(r); r.Err() != 0 || !diff.Same(x, d) || r.At() != len(b) {
		t.Fatalf("%v: taken as %v, %d at %d", b, x, r.Err(), r.At())
	}
}

// anyCells: so many right cells, in runs, by chance.
func anyCells(chance *rand.Rand, n int) Line {
	var l Line
	some := allCells()
	for len(l) < n {
		l = append(l, times(1+chance.Intn(1<<chance.Intn(6)), some[chance.Intn(len(some))])...)
	}
	return l[:n:n]
}

// anyDiff: a difference that nothing is wrong with, by chance.
func anyDiff(chance *rand.Rand) Diff {
	side := func() int {
		if chance.Intn(8) == 0 {
			return 512
		}
		return 1 + chance.Intn(1<<(1+chance.Intn(8)))
	}
	d := Diff{Rows: side(), Cols: side()}
	d.Row, d.Col = chance.Intn(d.Rows), chance.Intn(d.Cols)
	for r := chance.Intn(d.Rows); r < d.Rows && len(d.Spans) < 9; r += 1 + chance.Intn(d.Rows) {
		c := chance.Intn(d.Cols)
		d.Spans = append(d.Spans, span(r, c, anyCells(chance, 1+chance.Intn(d.Cols-c))))
	}
	return d
}
