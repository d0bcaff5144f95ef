package cell_test

import (
	"math"
	"slices"
	"testing"

	"prolepsis/cell"
	"prolepsis/pen"
	"prolepsis/width"
)

type (
	Cell = cell.Cell
	Pen  = pen.Pen
)

// The fields' types, as the chapter has them.
var (
	_ rune    = Cell{}.R
	_ [2]rune = Cell{}.M
	_ uint8   = Cell{}.W
	_ pen.Pen = Cell{}.Pen
)

// widths: of which width some runes are, the ends of ranges among them.
var widths = map[rune]int{
	' ': 1, 'a': 1, 'b': 1, '~': 1, 0xa0: 1, 0x2ff: 1, 0x370: 1, 0x303f: 1, 0xd7ff: 1, 0xe000: 1, 0xfffd: 1, 0x10ffff: 1,
	0x1100: 2, 0x3042: 2, 0xd7a3: 2, 0xff60: 2, 0x1f600: 2, 0x20000: 2, 0x3fffd: 2,
	0x300: 0, 0x301: 0, 0x36f: 0, 0x200b: 0, 0x200f: 0, 0x20d0: 0, 0xfe0f: 0, 0xfe2f: 0,
	0: -1, 1: -1, 7: -1, 0x1b: -1, 0x1f: -1, 0x7f: -1, 0x9f: -1, 0xd800: -1, 0xdfff: -1, 0x110000: -1,
	-1: -1, -'a': -1, -0x301: -1, math.MinInt32: -1, math.MaxInt32: -1,
	// The same as others in their lowest bits.
	0x1000000 + 'a': -1, 0x1000000 + 0x301: -1, 0x1000000 + 0x3042: -1, math.MinInt32 + 'a': -1,
}

// someRunes: those of widths, in order.
func someRunes() []rune {
	var l []rune
	for r := range widths {
		l = append(l, r)
	}
	slices.Sort(l)
	return l
}

func ink(flags, fore, back uint8) Pen { return Pen{Flags: flags, Fore: fore, Back: back} }

func rightPens() []Pen {
	return []Pen{{}, {Flags: 1}, {Flags: 31}, {Fore: 16}, {Back: 16}, ink(31, 16, 16), ink(5, 2, 3)}
}

func wrongPens() []Pen {
	return []Pen{{Flags: 32}, {Fore: 17}, {Back: 17}, ink(33, 1, 1), ink(255, 255, 255)}
}

func allPens() []Pen { return append(rightPens(), wrongPens()...) }

// eachCell goes through right cells and others: each kind of rune, of mark, of W and of pen beside each other one.
func eachCell(f func(c Cell)) {
	runes := []rune{0, ' ', 'a', 0x3042, 0x301, 7, 0xd800, -1, 0x110000}
	marks := []rune{0, 0x301, 0x302, 0xfe0f, 'b', 0x3042, 7, -1}
	pens := []Pen{{}, ink(31, 16, 16), {Flags: 32}, {Fore: 17}, {Back: 17}}
	for _, r := range runes {
		for _, m := range marks {
			for _, n := range marks {
				for _, w := range []uint8{0, 1, 2, 3, 4, 128, 254, 255} {
					for _, p := range pens {
						f(Cell{R: r, M: [2]rune{m, n}, W: w, Pen: p})
					}
				}
			}
		}
	}
}

func rightPen(p Pen) bool { return p.Flags < 32 && p.Fore <= 16 && p.Back <= 16 }

// hasWidth: by hand, where it is known, or by layer 3.
func hasWidth(r rune, n int) bool {
	if w, known := widths[r]; known {
		return w == n
	}
	return width.Of(r) == n
}

func isMark(r rune) bool { return hasWidth(r, 0) }

// rightOne: what the chapter says of a right cell.
func rightOne(c Cell) bool {
	if !rightPen(c.Pen) || c.W > 2 {
		return false
	}
	if c.W == 0 {
		return c.R == 0 && c.M[0] == 0 && c.M[1] == 0
	}
	first, second := c.M[0] == 0 || isMark(c.M[0]), c.M[1] == 0 || isMark(c.M[1])
	return hasWidth(c.R, int(c.W)) && first && second && (c.M[0] != 0 || c.M[1] == 0)
}

// markedBy: what the chapter says of a cell with a mark more.
func markedBy(c Cell, r rune) (Cell, bool) {
	if !isMark(r) || c.W == 0 || c.W > 2 {
		return c, false
	}
	if c.M[0] == 0 {
		return Cell{c.R, [2]rune{r, c.M[1]}, c.W, c.Pen}, true
	}
	if c.M[1] == 0 {
		return Cell{c.R, [2]rune{c.M[0], r}, c.W, c.Pen}, true
	}
	return c, false
}

// runesOf: what the chapter says of a cell's runes.
func runesOf(c Cell) []rune {
	switch {
	case c.W == 0 || c.W > 2:
		return nil
	case c.M[0] == 0 && c.M[1] == 0:
		return []rune{c.R}
	case c.M[0] == 0:
		return []rune{c.R, c.M[1]}
	case c.M[1] == 0:
		return []rune{c.R, c.M[0]}
	}
	return []rune{c.R, c.M[0], c.M[1]}
}

func alikeOnes(a, b Cell) bool { return a.R == b.R && a.M == b.M && a.W == b.W }

// P5.1: a space of W 1 without marks, of whatever pen.
func TestBlank(t *testing.T) {
	for _, p := range allPens() {
		if c := cell.Blank(p); c != (Cell{R: 0x20, W: 1, Pen: p}) {
			t.Errorf("%v: %v", p, c)
		}
		if of, ok := cell.Of(0x20, p); !ok || of != cell.Blank(p) {
			t.Errorf("%v: the cell of a space is %v, %v", p, of, ok)
		}
	}
}

// P5.1: runes whose widths are known by hand.
func TestOfByHand(t *testing.T) {
	for _, p := range allPens() {
		for r, w := range widths {
			var want Cell
			if w > 0 {
				want = Cell{R: r, W: uint8(w), Pen: p}
			}
			if c, ok := cell.Of(r, p); c != want || ok != (w > 0) {
				t.Errorf("%x, %v: %v, %v, not %v", r, p, c, ok, want)
			}
		}
	}
}

// P5.1: every rune about the scalars, by its width (3), and those far from them.
func TestOfEveryRune(t *testing.T) {
	p := ink(5, 2, 3)
	check := func(r rune) {
		w := width.Of(r)
		var want Cell
		if w == 1 || w == 2 {
			want = Cell{R: r, W: uint8(w), Pen: p}
		}
		if c, ok := cell.Of(r, p); c != want || ok != (w > 0) {
			t.Fatalf("%x: %v, %v, not %v", r, c, ok, want)
		}
	}
	for r := rune(-0x1000); r <= 0x111000; r++ {
		check(r)
	}
	for bit := 21; bit < 31; bit++ {
		for _, low := range []rune{0, 'a', 0x301, 0x3042, 0x1f600} {
			check(low | 1<<bit)
			check(low | -1<<bit)
		}
	}
}

// P5.1: the right half, of cells that are right and of others.
func TestRest(t *testing.T) {
	for _, p := range allPens() {
		for r := range widths {
			c, _ := cell.Of(r, p)
			if rest := cell.Rest(c); rest != (Cell{Pen: c.Pen}) {
				t.Errorf("%v: %v", c, rest)
			}
		}
		if rest := cell.Rest(Cell{R: 0x3042, M: [2]rune{0x301, 0x302}, W: 2, Pen: p}); rest != (Cell{Pen: p}) {
			t.Errorf("%v: %v", p, rest)
		}
	}
	eachCell(func(c Cell) {
		if rest := cell.Rest(c); rest.R != 0 || rest.M != [2]rune{} || rest.W != 0 || rest.Pen != c.Pen {
			t.Fatalf("%v: %v", c, rest)
		}
	})
}

// P5.1: all stays but the pen, of cells that are right and of others.
func TestWith(t *testing.T) {
	a := Cell{R: 'a', M: [2]rune{0x301}, W: 1, Pen: Pen{Flags: 1}}
	if c := cell.With(a, Pen{Fore: 2}); c != (Cell{R: 'a', M: [2]rune{0x301}, W: 1, Pen: Pen{Fore: 2}}) {
		t.Error(c)
	}
	pens := allPens()
	eachCell(func(c Cell) {
		for _, p := range pens {
			if d := cell.With(c, p); d.R != c.R || d.M != c.M || d.W != c.W || d.Pen != p {
				t.Fatalf("%v with %v: %v", c, p, d)
			}
		}
	})
}

// P5.2: Mark, by hand: by a mark, by others, of each number of marks, of each W.
func TestMarkByHand(t *testing.T) {
	p := ink(5, 2, 3)
	for _, x := range []struct {
		c    Cell
		r    rune
		want Cell
		ok   bool
	}{
		{Cell{R: 'a', W: 1}, 0x301, Cell{R: 'a', M: [2]rune{0x301}, W: 1}, true},
		{Cell{R: 'a', W: 1, Pen: p}, 0xfe0f, Cell{R: 'a', M: [2]rune{0xfe0f}, W: 1, Pen: p}, true},
		{Cell{R: 0x3042, W: 2}, 0x301, Cell{R: 0x3042, M: [2]rune{0x301}, W: 2}, true},
		{Cell{R: 'a', M: [2]rune{0x301}, W: 1}, 0x302, Cell{R: 'a', M: [2]rune{0x301, 0x302}, W: 1}, true},
		{Cell{R: 'a', M: [2]rune{0x301}, W: 1}, 0x301, Cell{R: 'a', M: [2]rune{0x301, 0x301}, W: 1}, true},
		{Cell{R: 0x3042, M: [2]rune{0x301}, W: 2}, 0x302, Cell{R: 0x3042, M: [2]rune{0x301, 0x302}, W: 2}, true},
		{Cell{R: 'a', M: [2]rune{0, 0x301}, W: 1}, 0x302, Cell{R: 'a', M: [2]rune{0x302, 0x301}, W: 1}, true},
		{Cell{R: 'a', M: [2]rune{'b'}, W: 1}, 0x302, Cell{R: 'a', M: [2]rune{'b', 0x302}, W: 1}, true},
		{Cell{R: 7, W: 1, Pen: Pen{Fore: 17}}, 0x302, Cell{R: 7, M: [2]rune{0x302}, W: 1, Pen: Pen{Fore: 17}}, true},
		{Cell{R: 'a', W: 2}, 0x302, Cell{R: 'a', M: [2]rune{0x302}, W: 2}, true},

		{Cell{R: 'a', M: [2]rune{0x301, 0x302}, W: 1, Pen: p}, 0x303, Cell{R: 'a', M: [2]rune{0x301, 0x302}, W: 1, Pen: p}, false},
		{Cell{R: 'a', M: [2]rune{'b', -1}, W: 1}, 0x303, Cell{R: 'a', M: [2]rune{'b', -1}, W: 1}, false},
		{Cell{R: 'a', W: 1, Pen: p}, 'x', Cell{R: 'a', W: 1, Pen: p}, false},
		{Cell{R: 'a', W: 1}, 0x3042, Cell{R: 'a', W: 1}, false},
		{Cell{R: 'a', W: 1}, 0, Cell{R: 'a', W: 1}, false},
		{Cell{R: 'a', W: 1}, 7, Cell{R: 'a', W: 1}, false},
		{Cell{R: 'a', W: 1}, -1, Cell{R: 'a', W: 1}, false},
		{Cell{R: 'a', W: 1}, 0xd800, Cell{R: 'a', W: 1}, false},
		{Cell{R: 'a', W: 1}, 0x1000301, Cell{R: 'a', W: 1}, false},
		{Cell{}, 0x301, Cell{}, false},
		{Cell{Pen: p}, 0x301, Cell{Pen: p}, false},
		{Cell{R: 'a'}, 0x301, Cell{R: 'a'}, false},
		{Cell{R: 'a', W: 3}, 0x301, Cell{R: 'a', W: 3}, false},
		{Cell{R: 'a', M: [2]rune{0x301}, W: 255}, 0x301, Cell{R: 'a', M: [2]rune{0x301}, W: 255}, false},
	} {
		if c, ok := cell.Mark(x.c, x.r); c != x.want || ok != x.ok {
			t.Errorf("%v by %x: %v, %v, not %v, %v", x.c, x.r, c, ok, x.want, x.ok)
		}
	}
}

// P5.2: Mark, of each kind of cell by each kind of rune.
func TestMark(t *testing.T) {
	runes := someRunes()
	eachCell(func(c Cell) {
		for _, r := range runes {
			want, there := markedBy(c, r)
			if d, ok := cell.Mark(c, r); d != want || ok != there {
				t.Fatalf("%v by %x: %v, %v, not %v, %v", c, r, d, ok, want, there)
			}
		}
	})
}

// P5.2: Mark, by every rune about the scalars: by those of width 0 (3) alone.
func TestMarkByEveryRune(t *testing.T) {
	a := Cell{R: 'a', W: 1}
	for r := rune(-0x1000); r <= 0x111000; r++ {
		want := a
		if width.Of(r) == 0 {
			want.M[0] = r
		}
		if c, ok := cell.Mark(a, r); c != want || ok != (width.Of(r) == 0) {
			t.Fatalf("by %x: %v, %v, not %v", r, c, ok, want)
		}
	}
}

// P5.2: Right, by hand.
func TestRightByHand(t *testing.T) {
	for _, c := range []Cell{
		{},
		{Pen: ink(31, 16, 16)},
		{R: 'a', W: 1},
		{R: ' ', W: 1, Pen: ink(31, 16, 16)},
		{R: 0x3042, W: 2},
		{R: 'a', M: [2]rune{0x301}, W: 1},
		{R: 'a', M: [2]rune{0x301, 0x302}, W: 1},
		{R: 0x3042, M: [2]rune{0x301, 0x301}, W: 2, Pen: ink(1, 2, 3)},
	} {
		if !cell.Right(c) {
			t.Errorf("%v: not right", c)
		}
	}
	for _, c := range []Cell{
		{R: 'a', W: 2},
		{R: 0x3042, W: 1},
		{R: 0x301, W: 1},
		{R: 0x301, W: 2},
		{R: 0x301},
		{R: 7, W: 1},
		{R: 7, W: 2},
		{R: 7, W: 255},
		{R: -1, W: 255},
		{R: 0xd800, W: 1},
		{R: 0x110000, W: 1},
		{W: 1},
		{W: 2},
		{W: 3},
		{R: 'a', W: 3},
		{R: 'a', W: 255},
		{R: 'a'},
		{R: ' '},
		{R: 0x3042},
		{R: -1},
		{M: [2]rune{0x301}},
		{M: [2]rune{0, 0x301}},
		{M: [2]rune{'b', 0}},
		{R: 'a', M: [2]rune{0, 0x301}, W: 1},
		{R: 0x3042, M: [2]rune{0, 0x301}, W: 2},
		{R: 'a', M: [2]rune{'b'}, W: 1},
		{R: 'a', M: [2]rune{0x301, 'b'}, W: 1},
		{R: 'a', M: [2]rune{'b', 0x301}, W: 1},
		{R: 'a', M: [2]rune{0, 'b'}, W: 1},
		{R: 'a', M: [2]rune{0x3042}, W: 1},
		{R: 'a', M: [2]rune{7}, W: 1},
		{R: 'a', M: [2]rune{-1}, W: 1},
		{R: 'a', M: [2]rune{0x301, 0x110000}, W: 1},
		{R: 'a', W: 1, Pen: Pen{Flags: 32}},
		{R: 'a', W: 1, Pen: Pen{Fore: 17}},
		{R: 0x3042, W: 2, Pen: Pen{Back: 17}},
		{Pen: Pen{Flags: 32}},
		{Pen: Pen{Fore: 17}},
		{Pen: Pen{Back: 255}},
	} {
		if cell.Right(c) {
			t.Errorf("%v: right", c)
		}
	}
}

// P5.2: Right, Runes and Alike of each kind of cell.
func TestEachCell(t *testing.T) {
	eachCell(func(c Cell) {
		if ok := cell.Right(c); ok != rightOne(c) {
			t.Fatalf("%v: right %v", c, ok)
		}
		if l, want := cell.Runes(c), runesOf(c); !slices.Equal(l, want) {
			t.Fatalf("%v: runes %x, not %x", c, l, want)
		}
		other := c
		other.Pen.Back += 3
		if !cell.Alike(c, c) || !cell.Alike(c, other) || !cell.Alike(other, c) {
			t.Fatalf("%v: not alike but for the pen", c)
		}
	})
}

// P5.2: Right, of every W there can be beside each kind of rune.
func TestRightOfEveryWidth(t *testing.T) {
	for r, w := range widths {
		for n := range 256 {
			want := w > 0 && n == w || r == 0 && n == 0
			if ok := cell.Right(Cell{R: r, W: uint8(n)}); ok != want {
				t.Errorf("%x of W %d: right %v", r, n, ok)
			}
		}
	}
}

// P5.2: Right, of every rune about the scalars as a cell's own, and as a mark of each place.
func TestRightOfEveryRune(t *testing.T) {
	for r := rune(-0x1000); r <= 0x111000; r++ {
		w := width.Of(r)
		if cell.Right(Cell{R: r, W: 1}) != (w == 1) || cell.Right(Cell{R: r, W: 2}) != (w == 2) || cell.Right(Cell{R: r}) != (r == 0) {
			t.Fatalf("%x: a cell's own", r)
		}
		first, second := Cell{R: 'a', M: [2]rune{r}, W: 1}, Cell{R: 'a', M: [2]rune{0x301, r}, W: 1}
		if want := w == 0 || r == 0; cell.Right(first) != want || cell.Right(second) != want {
			t.Fatalf("%x: a mark", r)
		}
		if cell.Right(Cell{R: 'a', M: [2]rune{0, r}, W: 1}) != (r == 0) {
			t.Fatalf("%x: behind a 0", r)
		}
	}
}

// P5.2: Right, of pens with each number in each of their fields.
func TestRightOfPens(t *testing.T) {
	for n := range 256 {
		for _, p := range []Pen{{Flags: uint8(n)}, {Fore: uint8(n)}, {Back: uint8(n)}} {
			for _, c := range []Cell{{}, {R: 'a', W: 1}, {R: 0x3042, M: [2]rune{0x301}, W: 2}} {
				c.Pen = p
				if ok := cell.Right(c); ok != rightPen(p) {
					t.Errorf("%v: right %v", c, ok)
				}
			}
		}
	}
}

// P5.2: cells that differ in just one thing, whether they are right or not.
func TestAlikeByOne(t *testing.T) {
	base := Cell{R: 'a', M: [2]rune{0x301, 0x302}, W: 1, Pen: ink(1, 2, 3)}
	for _, x := range []struct {
		c    Cell
		want bool
	}{
		{base, true},
		{Cell{'a', [2]rune{0x301, 0x302}, 1, ink(0, 2, 3)}, true},
		{Cell{'a', [2]rune{0x301, 0x302}, 1, ink(1, 0, 3)}, true},
		{Cell{'a', [2]rune{0x301, 0x302}, 1, ink(1, 2, 0)}, true},
		{Cell{'a', [2]rune{0x301, 0x302}, 1, ink(255, 255, 255)}, true},
		{Cell{'b', [2]rune{0x301, 0x302}, 1, ink(1, 2, 3)}, false},
		{Cell{0, [2]rune{0x301, 0x302}, 1, ink(1, 2, 3)}, false},
		{Cell{'a', [2]rune{0x302, 0x302}, 1, ink(1, 2, 3)}, false},
		{Cell{'a', [2]rune{0, 0x302}, 1, ink(1, 2, 3)}, false},
		{Cell{'a', [2]rune{0x301, 0x301}, 1, ink(1, 2, 3)}, false},
		{Cell{'a', [2]rune{0x301, 0}, 1, ink(1, 2, 3)}, false},
		{Cell{'a', [2]rune{0x302, 0x301}, 1, ink(1, 2, 3)}, false},
		{Cell{'a', [2]rune{0x301, 0x302}, 0, ink(1, 2, 3)}, false},
		{Cell{'a', [2]rune{0x301, 0x302}, 2, ink(1, 2, 3)}, false},
		{Cell{'a', [2]rune{0x301, 0x302}, 255, ink(1, 2, 3)}, false},
		{Cell{}, false},
	} {
		if cell.Alike(base, x.c) != x.want || cell.Alike(x.c, base) != x.want {
			t.Errorf("%v, %v: not %v", base, x.c, x.want)
		}
	}
}

// P5.2: some cells of each kind, each held against each other one.
func TestAlike(t *testing.T) {
	var l []Cell
	i := 0
	eachCell(func(c Cell) {
		if i++; i%29 == 0 {
			l = append(l, c)
		}
	})
	for _, a := range l {
		for _, b := range l {
			if ok := cell.Alike(a, b); ok != alikeOnes(a, b) {
				t.Fatalf("%v, %v: %v", a, b, ok)
			}
		}
	}
}

// P5.2: Runes, by hand.
func TestRunesByHand(t *testing.T) {
	for _, x := range []struct {
		c    Cell
		want []rune
	}{
		{Cell{R: 'a', W: 1}, []rune{'a'}},
		{Cell{R: 'a', W: 1, Pen: ink(255, 255, 255)}, []rune{'a'}},
		{Cell{R: 0x3042, W: 2}, []rune{0x3042}},
		{Cell{R: 'a', M: [2]rune{0x301}, W: 1}, []rune{'a', 0x301}},
		{Cell{R: 'a', M: [2]rune{0x301, 0x302}, W: 1}, []rune{'a', 0x301, 0x302}},
		{Cell{R: 0x3042, M: [2]rune{0x302, 0x301}, W: 2}, []rune{0x3042, 0x302, 0x301}},
		{Cell{R: 'a', M: [2]rune{0, 0x301}, W: 1}, []rune{'a', 0x301}},
		{Cell{R: 'a', M: [2]rune{'b', -1}, W: 2}, []rune{'a', 'b', -1}},
		{Cell{R: -1, W: 1}, []rune{-1}},
		{Cell{W: 1}, []rune{0}},
		{Cell{M: [2]rune{0x301}, W: 2}, []rune{0, 0x301}},
		{Cell{}, nil},
		{Cell{R: 'a'}, nil},
		{Cell{R: 'a', M: [2]rune{0x301, 0x302}}, nil},
		{Cell{R: 'a', W: 3}, nil},
		{Cell{R: 'a', M: [2]rune{0x301}, W: 255}, nil},
	} {
		if l := cell.Runes(x.c); !slices.Equal(l, x.want) {
			t.Errorf("%v: %x, not %x", x.c, l, x.want)
		}
	}
}

// checkWhole: is a cell right, and if it has runes, are they one cluster of its W?
func checkWhole(t *testing.T, c Cell) {
	t.Helper()
	if !cell.Right(c) {
		t.Errorf("%v: not right", c)
	}
	l := cell.Runes(c)
	if n := width.Total(l...); n != int(c.W) {
		t.Errorf("%v: total %d", c, n)
	}
	clusters := width.Clusters(l...)
	if c.W == 0 {
		if len(clusters) != 0 {
			t.Errorf("%v: clusters %x", c, clusters)
		}
		return
	}
	if len(clusters) != 1 || !slices.Equal(clusters[0], l) {
		t.Errorf("%v: clusters %x", c, clusters)
	}
}

// P5.3: all that right pens and whatever runes make, with marks till there is no room.
func TestMadeIsRight(t *testing.T) {
	runes := someRunes()
	for _, p := range rightPens() {
		checkWhole(t, cell.Blank(p))
		for _, r := range runes {
			c, ok := cell.Of(r, p)
			checkWhole(t, c)
			checkWhole(t, cell.Rest(c))
			for _, m := range runes {
				d, _ := cell.Mark(c, m)
				checkWhole(t, d)
				for _, n := range []rune{0x301, m} {
					e, _ := cell.Mark(d, n)
					checkWhole(t, e)
					checkWhole(t, cell.Rest(e))
					f, more := cell.Mark(e, n)
					checkWhole(t, f)
					if more && (!ok || isMark(m)) {
						t.Errorf("%v by %x: a third mark", e, n)
					}
				}
			}
		}
	}
}

// P5.3: of all cells that are right, and of every rune about the scalars.
func TestRightIsWhole(t *testing.T) {
	seen := 0
	eachCell(func(c Cell) {
		if !cell.Right(c) {
			return
		}
		seen++
		checkWhole(t, c)
		checkWhole(t, cell.Rest(c))
		checkWhole(t, cell.With(c, ink(5, 2, 3)))
		for _, r := range []rune{0x301, 'a', 0, 7, -1} {
			d, _ := cell.Mark(c, r)
			checkWhole(t, d)
		}
	})
	// Of two pens each: three runes, of no mark, of three, and of nine pairs; and the right half.
	if seen != 2*(3*(1+3+9)+1) {
		t.Errorf("%d right cells", seen)
	}
	for r := rune(-0x100); r <= 0x110100; r++ {
		if c, ok := cell.Of(r, Pen{}); ok {
			checkWhole(t, c)
		}
	}
}

// The chapter's example.
func TestExample(t *testing.T) {
	p := Pen{Flags: 1}
	a, ok := cell.Of('a', p)
	if !ok || a.R != 'a' || a.W != 1 {
		t.Error(a, ok)
	}
	marked, ok := cell.Mark(a, 0x301)
	if !ok || marked.R != 'a' || marked.M != [2]rune{0x301, 0} {
		t.Error(marked, ok)
	}
	w, ok := cell.Of(0x3042, p)
	if !ok || w.W != 2 || cell.Rest(w).W != 0 {
		t.Error(w, ok)
	}
}

// An answer is new memory: what is done to one shows in no other, nor in the cell.
func TestRunesAreNew(t *testing.T) {
	for _, c := range []Cell{{R: 'a', W: 1}, {R: 'a', M: [2]rune{0x301}, W: 1}, {R: 0x3042, M: [2]rune{0x301, 0x302}, W: 2}} {
		before, want := c, runesOf(c)
		a, b := cell.Runes(c), cell.Runes(c)
		a = a[:cap(a)]
		for i := range a {
			a[i] = 'q'
		}
		if c != before || !slices.Equal(b, want) || !slices.Equal(cell.Runes(c), want) {
			t.Errorf("%v: runes share memory", before)
		}
	}
}

// A cell that is handed in stays as it is.
func TestCellStays(t *testing.T) {
	eachCell(func(c Cell) {
		before := c
		cell.Mark(c, 0x301)
		cell.With(c, ink(9, 9, 9))
		cell.Rest(c)
		cell.Alike(c, Cell{})
		if c != before {
			t.Fatalf("%v became %v", before, c)
		}
	})
}

// answers: what all calls say of a cell and a rune.
type answers struct {
	blank, of, rest, mark, with Cell
	made, marked, right, alike  bool
}

func ask(c Cell, r rune) (answers, []rune) {
	a := answers{blank: cell.Blank(c.Pen), rest: cell.Rest(c), with: cell.With(c, Pen{}), right: cell.Right(c)}
	a.of, a.made = cell.Of(r, c.Pen)
	a.mark, a.marked = cell.Mark(c, r)
	a.alike = cell.Alike(c, a.of)
	return a, cell.Runes(c)
}

// P2: the same calls have the same answers, whatever came between.
func TestSameAnswers(t *testing.T) {
	runes := someRunes()
	var cells []Cell
	eachCell(func(c Cell) { cells = append(cells, c) })
	var first []answers
	var lists [][]rune
	for i, c := range cells {
		a, l := ask(c, runes[i%len(runes)])
		first, lists = append(first, a), append(lists, l)
	}
	for i := len(cells) - 1; i >= 0; i-- {
		if a, l := ask(cells[i], runes[i%len(runes)]); a != first[i] || !slices.Equal(l, lists[i]) {
			t.Fatalf("%v: %v, %x, not %v, %x", cells[i], a, l, first[i], lists[i])
		}
	}
}

// P1: no call panics, and what the chapter says holds, at all arguments.
func FuzzCell(f *testing.F) {
	f.Add('a', rune(0x301), rune(0), uint8(1), uint8(0), uint8(0), uint8(0), rune(0x302))
	f.Add(rune(0x3042), rune(0), rune(0x301), uint8(2), uint8(31), uint8(16), uint8(16), rune(0))
	f.Add(rune(0), rune(0), rune(0), uint8(0), uint8(32), uint8(17), uint8(17), rune('x'))
	f.Add(rune(math.MinInt32), rune(-1), rune(math.MaxInt32), uint8(255), uint8(255), uint8(255), uint8(255), rune(math.MinInt32))
	f.Fuzz(func(t *testing.T, r, m, n rune, w, flags, fore, back uint8, by rune) {
		c := Cell{R: r, M: [2]rune{m, n}, W: w, Pen: ink(flags, fore, back)}
		a, l := ask(c, by)
		if a.right != rightOne(c) || !slices.Equal(l, runesOf(c)) {
			t.Errorf("%v: right %v, runes %x", c, a.right, l)
		}
		if want, ok := markedBy(c, by); a.mark != want || a.marked != ok {
			t.Errorf("%v by %x: %v, %v", c, by, a.mark, a.marked)
		}
		if a.made != (width.Of(by) > 0) || a.alike != alikeOnes(c, a.of) {
			t.Errorf("%v, %x: made %v, alike %v", c, by, a.made, a.alike)
		}
		if rightPen(c.Pen) {
			checkWhole(t, a.blank)
			checkWhole(t, a.of)
			checkWhole(t, a.rest)
		}
		if a.right {
			checkWhole(t, c)
			checkWhole(t, a.mark)
		}
	})
}
