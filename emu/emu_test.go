package emu_test

import (
	"fmt"
	"math"
	"slices"
	"testing"

	"prolepsis/api"
	"prolepsis/emu"
	"prolepsis/grid"
	"prolepsis/line"
	"prolepsis/parse"
)

// text: all rows' texts, each with a | behind it.
func text(g *grid.Grid) string {
	s := ""
	for r := range g.Rows() {
		s += line.Text(g.Line(r)) + "|"
	}
	return s
}

// seen: what an emulator shows: its texts, its cursor, and a ! if it is about to wrap.
func seen(e *emu.Emu) string {
	g := e.Grid()
	s := fmt.Sprintf("%s %d,%d", text(g), g.Row(), g.Col())
	if e.Wrap() {
		s += "!"
	}
	return s
}

// fed: an emulator to which a text was fed.
func fed(t *testing.T, rows, cols int, s string) *emu.Emu {
	t.Helper()
	e := must(t, rows, cols)
	e.Feed([]byte(s)...)
	return e
}

// shown is what an emulator of a size shows, when bytes were fed to it.
type shown struct {
	rows, cols  int
	bytes, want string
}

func (x shown) check(t *testing.T) {
	t.Helper()
	e := fed(t, x.rows, x.cols, x.bytes)
	if have := seen(e); have != x.want {
		t.Errorf("%d, %d, %q: %q, not %q", x.rows, x.cols, x.bytes, have, x.want)
	}
	if !grid.Right(e.Grid()) {
		t.Errorf("%d, %d, %q: not right", x.rows, x.cols, x.bytes)
	}
}

func checkAll(t *testing.T, l []shown) {
	t.Helper()
	for _, x := range l {
		x.check(t)
	}
}

// at: the cell of a place of an emulator's grid.
func at(t *testing.T, e *emu.Emu, r, c int) Cell {
	t.Helper()
	x, ok := e.Grid().At(r, c)
	if !ok {
		t.Fatalf("%d, %d: no cell", r, c)
	}
	return x
}

func TestNew(t *testing.T) {
	for _, x := range [][2]int{{1, 1}, {1, 512}, {512, 1}, {512, 512}, {2, 3}, {24, 80}} {
		e, m := both(t, x[0], x[1])
		check(t, x, e, m)
		if !e.Rest() {
			t.Errorf("%v: not at rest", x)
		}
		if a, b := must(t, x[0], x[1]), must(t, x[0], x[1]); a == b {
			t.Errorf("%v: the same one twice", x)
		}
	}
}

func TestNewRefused(t *testing.T) {
	for _, bad := range []int{0, -1, -512, 513, 514, math.MinInt, math.MaxInt, math.MinInt32, math.MaxInt32} {
		for _, x := range [][2]int{{bad, 1}, {1, bad}, {bad, 512}, {512, bad}, {bad, bad}, {bad, 80}, {24, bad}} {
			if e, f := emu.New(x[0], x[1]); f != api.ErrSize || e != nil {
				t.Errorf("%v: %v, %d", x, e, f)
			}
		}
	}
}

func TestExample(t *testing.T) {
	e := must(t, 2, 3)
	for _, x := range []struct{ bytes, want string }{
		{"a", "a  |   | 0,1"},
		{"b", "ab |   | 0,2"},
		{"c", "abc|   | 0,2!"},
		{"d", "abc|d  | 1,1"},
		{"\x1b[2J", "   |   | 1,1"},
	} {
		e.Feed([]byte(x.bytes)...)
		if have := seen(e); have != x.want {
			t.Errorf("%q: %q, not %q", x.bytes, have, x.want)
		}
	}
}

func TestPrintOfOneColumn(t *testing.T) {
	checkAll(t, []shown{
		{1, 1, "a", "a| 0,0!"},
		{1, 1, "ab", "b| 0,0!"},
		{2, 1, "a", "a| | 0,0!"},
		{2, 1, "ab", "a|b| 1,0!"},
		{2, 1, "abc", "b|c| 1,0!"},
		{1, 3, "a", "a  | 0,1"},
		{1, 3, "ab", "ab | 0,2"},
		{1, 3, "abc", "abc| 0,2!"},
		{1, 3, "abcd", "d  | 0,1"},
		{3, 2, "abcd", "ab|cd|  | 1,1!"},
		{3, 2, "abcde", "ab|cd|e | 2,1"},
		{3, 2, "abcdefg", "cd|ef|g | 2,1"},
		{1, 3, "\x1b[3Ga\x1b[3Cb", "a b| 0,2!"},
		{1, 3, "\xc3\xa9\xf0\x90\x80\x80 ", "é\U00010000 | 0,2!"},
		{1, 3, "\xff\xe2\x82A", "\ufffd\ufffdA| 0,2!"},
	})
}

func TestPrintOfTwoColumns(t *testing.T) {
	checkAll(t, []shown{
		{1, 2, "あ", "あ| 0,1!"},
		{1, 2, "あい", "い| 0,1!"},
		{2, 2, "あい", "あ|い| 1,1!"},
		{1, 3, "あ", "あ | 0,2"},
		{1, 3, "aあ", "aあ| 0,2!"},
		// One column is left: it stays as it was.
		{2, 3, "abあ", "ab |あ | 1,2"},
		{2, 3, "あい", "あ |い | 1,2"},
		{1, 3, "あい", "い | 0,2"},
		{2, 2, "aあ", "a |あ| 1,1!"},
		{2, 3, "abx\x1b[1;3Hあ", "abx|あ | 1,2"},
		{2, 3, "abx\x1b[2;3Hあ", "   |あ | 1,2"},
		// Over the halves of others.
		{1, 4, "あい\x1b[1;2Hう", " う | 0,3"},
		{1, 4, "あい\x1b[1;2Hu", " uい| 0,2"},
		{1, 4, "あい\x1b[1;1Hu", "u い| 0,1"},
		{1, 4, "あい\x1b[1;4Hu", "あ u| 0,3!"},
	})
}

func TestPrintThatNoColumnsCanTake(t *testing.T) {
	checkAll(t, []shown{
		{1, 1, "あ", " | 0,0"},
		{2, 1, "あ", " | | 0,0"},
		{2, 1, "aあ", "a| | 0,0!"},
		{2, 1, "aあb", "a|b| 1,0!"},
		{2, 1, "a\nあ", "a| | 1,0"},
		// What takes no part.
		{1, 2, "\xc2\x80\xc2\x9f", "  | 0,0"},
		{2, 2, "ab\xc2\x85", "ab|  | 0,1!"},
	})
	for _, r := range []rune{-1, 0, 7, 8, 0xa, 0xd, 0x1b, 0x1f, 0x7f, 0x80, 0x9f, 0xd800, 0xdfff, 0x110000, math.MinInt32, math.MaxInt32} {
		for _, s := range []string{"", "a", "ab", "abc"} {
			e := fed(t, 2, 2, s)
			was := e.Copy()
			e.Do(printed(r))
			if !same(e, was) {
				t.Errorf("print of %#x behind %q: %q, not %q", r, s, seen(e), seen(was))
			}
		}
	}
}

func TestPrintByThePen(t *testing.T) {
	e := fed(t, 1, 4, "\x1b[1;31;42mxあ")
	p := Pen{Flags: 1, Fore: 2, Back: 3}
	want := Line{{R: 'x', W: 1, Pen: p}, {R: 'あ', W: 2, Pen: p}, {Pen: p}, {R: ' ', W: 1}}
	if have := e.Grid().Line(0); !slices.Equal(have, want) {
		t.Errorf("%v, not %v", have, want)
	}
	// The next one's pen is another one; what stands there keeps its own.
	e.Feed([]byte("\x1b[my")...)
	want[3] = Cell{R: 'y', W: 1}
	if have := e.Grid().Line(0); !slices.Equal(have, want) {
		t.Errorf("%v, not %v", have, want)
	}
}

func TestMarks(t *testing.T) {
	checkAll(t, []shown{
		// In column 0 there is no cell ahead.
		{1, 3, "\u0301", "   | 0,0"},
		{1, 3, "\u0301a", "a  | 0,1"},
		{2, 2, "ab\r\n\u0301", "ab|  | 1,0"},
		{1, 3, "ab\r\u0301", "ab | 0,0"},
		{1, 1, "\u0301", " | 0,0"},
		// Ahead of the cursor.
		{1, 3, "a\u0301", "a\u0301  | 0,1"},
		{1, 3, "ab\u0301", "ab\u0301 | 0,2"},
		{1, 3, "ab\b\u0301", "a\u0301b | 0,1"},
		{1, 3, "\x1b[1;3H\u0301", "  \u0301 | 0,2"},
		{1, 3, "a\u0301\u0302", "a\u0301\u0302  | 0,1"},
		{1, 3, "a\u0301\u0302\u0303", "a\u0301\u0302  | 0,1"},
		// Behind a wide one, and amid it.
		{1, 3, "あ\u0301", "あ\u0301 | 0,2"},
		{1, 3, "あ\b\u0301", "あ\u0301 | 0,1"},
		{1, 3, "aあ\x1b[1;2H\u0301", "a\u0301あ| 0,1"},
		// About to wrap.
		{1, 3, "abc\u0301", "abc\u0301| 0,2!"},
		{1, 3, "aあ\u0301", "aあ\u0301| 0,2!"},
		{1, 1, "a\u0301", "a\u0301| 0,0!"},
		{2, 1, "a\u0301b", "a\u0301|b| 1,0!"},
		{1, 3, "abc\x1b[2J\u0301", "   \u0301| 0,2!"},
		// In the last column, but not about to wrap.
		{1, 3, "abc\x1b[C\u0301", "ab\u0301c| 0,2"},
		{1, 1, "a\r\u0301", "a| 0,0"},
	})
}

func TestMarksKeepThePen(t *testing.T) {
	e := fed(t, 1, 2, "\x1b[4ma\x1b[31m\u0301")
	if have, want := at(t, e, 0, 0), (Cell{R: 'a', M: [2]rune{0x301}, W: 1, Pen: Pen{Flags: 4}}); have != want {
		t.Errorf("%v, not %v", have, want)
	}
}

func TestControls(t *testing.T) {
	checkAll(t, []shown{
		{2, 3, "\r", "   |   | 0,0"},
		{2, 3, "ab\r", "ab |   | 0,0"},
		{2, 3, "abc\r", "abc|   | 0,0"},
		{2, 3, "abc\rd", "dbc|   | 0,1"},
		{2, 3, "\n", "   |   | 1,0"},
		{2, 3, "ab\n", "ab |   | 1,2"},
		{2, 3, "abc\n", "abc|   | 1,2"},
		{2, 3, "abc\nd", "abc|  d| 1,2!"},
		{2, 3, "ab\n\n", "   |   | 1,2"},
		{2, 3, "a\r\nb\n", "b  |   | 1,1"},
		{2, 3, "abcdef\n", "def|   | 1,2"},
		{1, 2, "a\n", "  | 0,1"},
		{1, 2, "ab\nc", " c| 0,1!"},
		{2, 3, "\b", "   |   | 0,0"},
		{2, 3, "a\b", "a  |   | 0,0"},
		{2, 3, "a\b\b", "a  |   | 0,0"},
		{2, 3, "abc\b", "abc|   | 0,1"},
		{2, 3, "abcd\b\b", "abc|d  | 1,0"},
		{2, 1, "a\b", "a| | 0,0"},
		{2, 1, "a\bb", "b| | 0,0!"},
		{2, 3, "aあ\bx", "ax |   | 0,2"},
	})
}

func TestOtherControls(t *testing.T) {
	runes := []rune{-1, -0xa, 0x7f, 0x80, 0x108, 0x10a, 0x10d, 'A', 'H', 'J', 'm', 'a', 'd', '8', ' ', 0x301, 'あ', math.MinInt32, math.MaxInt32}
	for r := rune(0); r < 0x20; r++ {
		if r != 8 && r != 0xa && r != 0xd {
			runes = append(runes, r)
		}
	}
	for _, r := range runes {
		for _, s := range []string{"", "a", "ab", "abc", "abcd", "\x1b[7;41ma"} {
			e := fed(t, 2, 2, s)
			was := e.Copy()
			e.Do(controlled(r), Event{Kind: 2, R: r, N: []int{2, 2}})
			if !same(e, was) {
				t.Errorf("control %#x behind %q: %q, not %q", r, s, seen(e), seen(was))
			}
		}
	}
}

func TestMoves(t *testing.T) {
	// The cursor is at 2, 2 of 5 rows and 5 columns.
	for _, x := range []struct {
		event    Event
		row, col int
	}{
		{sequence('A'), 1, 2}, {sequence('B'), 3, 2}, {sequence('C'), 2, 3}, {sequence('D'), 2, 1}, {sequence('H'), 0, 0},
		{sequence('A', 0), 1, 2}, {sequence('B', 0), 3, 2}, {sequence('C', 0), 2, 3}, {sequence('D', 0), 2, 1}, {sequence('H', 0), 0, 0},
		{sequence('A', -1), 1, 2}, {sequence('B', -1), 3, 2}, {sequence('C', -1), 2, 3}, {sequence('D', -1), 2, 1}, {sequence('H', -1), 0, 0},
		{sequence('A', -2), 1, 2}, {sequence('B', -2), 3, 2}, {sequence('C', -2), 2, 3}, {sequence('D', -2), 2, 1}, {sequence('H', -2), 0, 0},
		{sequence('A', math.MinInt), 1, 2}, {sequence('B', math.MinInt), 3, 2}, {sequence('C', math.MinInt), 2, 3}, {sequence('D', math.MinInt), 2, 1}, {sequence('H', math.MinInt, math.MinInt), 0, 0},
		{sequence('A', 1), 1, 2}, {sequence('B', 1), 3, 2}, {sequence('C', 1), 2, 3}, {sequence('D', 1), 2, 1}, {sequence('H', 1), 0, 0},
		{sequence('A', 2), 0, 2}, {sequence('B', 2), 4, 2}, {sequence('C', 2), 2, 4}, {sequence('D', 2), 2, 0}, {sequence('H', 2), 1, 0},
		{sequence('A', 3), 0, 2}, {sequence('B', 3), 4, 2}, {sequence('C', 3), 2, 4}, {sequence('D', 3), 2, 0}, {sequence('H', 3), 2, 0},
		{sequence('A', 9999), 0, 2}, {sequence('B', 9999), 4, 2}, {sequence('C', 9999), 2, 4}, {sequence('D', 9999), 2, 0}, {sequence('H', 9999), 4, 0},
		{sequence('A', math.MaxInt), 0, 2}, {sequence('B', math.MaxInt), 4, 2}, {sequence('C', math.MaxInt), 2, 4}, {sequence('D', math.MaxInt), 2, 0}, {sequence('H', math.MaxInt, math.MaxInt), 4, 4},
		{sequence('A', 2, 1), 0, 2}, {sequence('B', 2, 1), 4, 2}, {sequence('C', -1, 2), 2, 3}, {sequence('D', 0, 2), 2, 1},
		{sequence('H', 2, 4), 1, 3}, {sequence('H', -1, 4), 0, 3}, {sequence('H', 0, 4), 0, 3}, {sequence('H', 4, -1), 3, 0}, {sequence('H', 4, 0), 3, 0}, {sequence('H', 4, -7), 3, 0},
		{sequence('H', 5, 5), 4, 4}, {sequence('H', 6, 6), 4, 4}, {sequence('H', 2, 3, 4, 5), 1, 2}, {sequence('H', -1, -1), 0, 0},
	} {
		e := must(t, 5, 5)
		e.Do(placed(2, 2), x.event)
		if g := e.Grid(); g.Row() != x.row || g.Col() != x.col || e.Wrap() {
			t.Errorf("%v: %d, %d, not %d, %d", x.event, g.Row(), g.Col(), x.row, x.col)
		}
	}
}

func TestMovesOfTheGreatestGrid(t *testing.T) {
	e := must(t, 512, 512)
	for _, x := range []struct {
		event    Event
		row, col int
	}{
		{sequence('B', 511), 511, 0}, {sequence('C', 511), 511, 511}, {sequence('A', 511), 0, 511}, {sequence('D', 511), 0, 0},
		{sequence('B', 510), 510, 0}, {sequence('C', 510), 510, 510}, {sequence('A', 510), 0, 510}, {sequence('D', 510), 0, 0},
		{sequence('H', 512, 512), 511, 511}, {sequence('H', 511, 511), 510, 510}, {sequence('H', 513, 513), 511, 511},
		{sequence('A', math.MaxInt), 0, 511}, {sequence('D', math.MaxInt), 0, 0}, {sequence('B', math.MaxInt), 511, 0}, {sequence('C', math.MaxInt), 511, 511},
		{sequence('B', math.MaxInt), 511, 511}, {sequence('C', math.MaxInt), 511, 511},
	} {
		e.Do(x.event)
		if g := e.Grid(); g.Row() != x.row || g.Col() != x.col {
			t.Errorf("%v: %d, %d, not %d, %d", x.event, g.Row(), g.Col(), x.row, x.col)
		}
	}
}

func TestMovesAboutToWrap(t *testing.T) {
	for _, x := range []struct{ bytes, want string }{
		{"\r", "ab|  |  | 0,0"},
		{"\n", "ab|  |  | 1,1"},
		{"\b", "ab|  |  | 0,0"},
		{"\x1b[A", "ab|  |  | 0,1"},
		{"\x1b[B", "ab|  |  | 1,1"},
		{"\x1b[C", "ab|  |  | 0,1"},
		{"\x1b[D", "ab|  |  | 0,0"},
		{"\x1b[H", "ab|  |  | 0,0"},
		{"\x1b[1;2H", "ab|  |  | 0,1"},
		{"\x1b[9;9H", "ab|  |  | 2,1"},
		// These don't move it.
		{"\x1b[J", "a |  |  | 0,1!"},
		{"\x1b[1J", "  |  |  | 0,1!"},
		{"\x1b[K", "a |  |  | 0,1!"},
		{"\x1b[2K", "  |  |  | 0,1!"},
		{"\x1b[7m", "ab|  |  | 0,1!"},
		{"\x1b[9J\x1b[9K", "ab|  |  | 0,1!"},
		{"\x1b[2E\x1b[5G\x1b[h", "ab|  |  | 0,1!"},
		{"\t\x07\x00\x7f", "ab|  |  | 0,1!"},
		{"\u0301", "ab\u0301|  |  | 0,1!"},
	} {
		shown{3, 2, "ab" + x.bytes, x.want}.check(t)
	}
	// What comes then is at the cursor, without a feed.
	checkAll(t, []shown{
		{2, 2, "ab\x1b[Cx", "ax|  | 0,1!"},
		{2, 2, "ab\x1b[Axy", "ax|y | 1,1"},
		{2, 2, "ab\x1b[Kx", "a |x | 1,1"},
	})
}

func TestEraseRows(t *testing.T) {
	full := "abcdefghi"
	for _, x := range []struct {
		place, row string
	}{
		{"\x1b[J", "abc|d  |   |"}, {"\x1b[0J", "abc|d  |   |"}, {"\x1b[;J", "abc|d  |   |"}, {"\x1b[;2J", "abc|d  |   |"},
		{"\x1b[1J", "   |  f|ghi|"}, {"\x1b[1;2J", "   |  f|ghi|"},
		{"\x1b[2J", "   |   |   |"}, {"\x1b[2;0J", "   |   |   |"},
		{"\x1b[3J", "abc|def|ghi|"}, {"\x1b[9999J", "abc|def|ghi|"}, {"\x1b[?2J", "abc|def|ghi|"},
		{"\x1b[K", "abc|d  |ghi|"}, {"\x1b[0K", "abc|d  |ghi|"}, {"\x1b[;K", "abc|d  |ghi|"},
		{"\x1b[1K", "abc|  f|ghi|"}, {"\x1b[2K", "abc|   |ghi|"},
		{"\x1b[3K", "abc|def|ghi|"}, {"\x1b[9999K", "abc|def|ghi|"}, {"\x1b[?2K", "abc|def|ghi|"},
	} {
		shown{3, 3, full + "\x1b[2;2H" + x.place, x.row + " 1,1"}.check(t)
	}
	checkAll(t, []shown{
		{3, 3, full + "\x1b[H\x1b[J", "   |   |   | 0,0"},
		{3, 3, full + "\x1b[H\x1b[1J", " bc|def|ghi| 0,0"},
		{3, 3, full + "\x1b[H\x1b[2J", "   |   |   | 0,0"},
		{3, 3, full + "\x1b[9;9H\x1b[J", "abc|def|gh | 2,2"},
		{3, 3, full + "\x1b[9;9H\x1b[1J", "   |   |   | 2,2"},
		{3, 3, full + "\x1b[H\x1b[K", "   |def|ghi| 0,0"},
		{3, 3, full + "\x1b[H\x1b[1K", " bc|def|ghi| 0,0"},
		{3, 3, full + "\x1b[9;9H\x1b[K", "abc|def|gh | 2,2"},
		{3, 3, full + "\x1b[9;9H\x1b[1K", "abc|def|   | 2,2"},
		// A half of a wide one: the other one is blank, too.
		{1, 4, "xあy\x1b[1;2H\x1b[1K", "   y| 0,1"},
		{1, 4, "xあy\x1b[1;3H\x1b[K", "x   | 0,2"},
		{1, 4, "xあy\x1b[1;3H\x1b[1J", "   y| 0,2"},
		{1, 4, "xあy\x1b[1;2H\x1b[J", "x   | 0,1"},
	})
}

func TestEraseByOddNumbers(t *testing.T) {
	for _, k := range []int{math.MinInt, -512, -3, -2, 3, 4, 256, 257, 258, math.MaxInt} {
		e := fed(t, 2, 2, "abcd\x1b[1;2H")
		e.Do(sequence('J', k), sequence('K', k), sequence('J', k, 2), sequence('K', k, 2))
		if have := seen(e); have != "ab|cd| 0,1" {
			t.Errorf("%d: %q", k, have)
		}
	}
	e := fed(t, 2, 2, "abcd\x1b[1;2H")
	e.Do(sequence('K', -1))
	if have := seen(e); have != "a |cd| 0,1" {
		t.Errorf("-1: %q", have)
	}
}

func TestBlankPen(t *testing.T) {
	back := Pen{Back: 5}
	for _, x := range []struct {
		bytes string
		r, c  int
	}{
		{"\x1b[J", 0, 1}, {"\x1b[J", 1, 0}, {"\x1b[1J", 0, 0}, {"\x1b[2J", 1, 1}, {"\x1b[K", 0, 1}, {"\x1b[1K", 0, 0}, {"\x1b[2K", 0, 0},
		{"\x1b[9H\n", 1, 0}, {"\x1b[9;9Hab", 1, 1},
	} {
		e := fed(t, 2, 2, "wxyz\x1b[1;2H\x1b[1;4;7;33;44m"+x.bytes)
		if have := at(t, e, x.r, x.c); have != blankOf(back) {
			t.Errorf("%q: %v, not %v", x.bytes, have, blankOf(back))
		}
		if e.Pen() != (Pen{Flags: 21, Fore: 4, Back: 5}) {
			t.Errorf("%q: %v", x.bytes, e.Pen())
		}
	}
	// A half that is mended keeps its own pen.
	e := fed(t, 1, 3, "\x1b[31mあ\x1b[44m\b\x1b[K")
	want := Line{blankOf(Pen{Fore: 2}), blankOf(back), blankOf(back)}
	if have := e.Grid().Line(0); !slices.Equal(have, want) {
		t.Errorf("%v, not %v", have, want)
	}
	// Of no Back it is the zero pen, whatever else the pen has.
	e = fed(t, 1, 1, "a\x1b[1;7;31m\x1b[K")
	if have := at(t, e, 0, 0); have != blankOf(Pen{}) {
		t.Error(have)
	}
}

func TestTurn(t *testing.T) {
	some := Pen{Flags: 1, Fore: 2}
	for _, x := range []struct {
		numbers []int
		want    Pen
	}{
		{nil, Pen{}},
		{[]int{}, Pen{}},
		{[]int{0}, Pen{}},
		{[]int{-1}, Pen{}},
		{[]int{4}, Pen{Flags: 5, Fore: 2}},
		{[]int{4, -1}, Pen{}},
		{[]int{-1, 4}, Pen{Flags: 4}},
		{[]int{4, -1, 42, 7}, Pen{Flags: 16, Back: 3}},
		{[]int{22, 97, 107}, Pen{Fore: 16, Back: 16}},
		{[]int{-2}, some},
		{[]int{3, 38, 48, 9999, math.MaxInt, math.MinInt, -30, 256, 257}, some},
		{[]int{1, 2, 4, 5, 7, 31, 41, 32, 42, 39, 22}, Pen{Flags: 28, Back: 3}},
	} {
		e := fed(t, 1, 2, "\x1b[1;31mx")
		e.Do(Event{Kind: 3, R: 'm', N: x.numbers})
		if e.Pen() != x.want || seen(e) != "x | 0,1" {
			t.Errorf("%v: %v, %q, not %v", x.numbers, e.Pen(), seen(e), x.want)
		}
	}
	if p := fed(t, 1, 1, "\x1b[1;31m\x1b[;42m").Pen(); p != (Pen{Back: 3}) {
		t.Error(p)
	}
	if p := fed(t, 1, 1, "\x1b[1;31m\x1b[m").Pen(); p != (Pen{}) {
		t.Error(p)
	}
}

func TestOtherFinalBytes(t *testing.T) {
	runes := []rune{-'A', -1, 0, 8, 0xa, 0xd, 0x1b, 'A' + 0x100, 'H' + 0x100, 'm' + 0x100, 0x301, 'あ', math.MinInt32, math.MaxInt32}
	for r := rune(0x20); r < 0x80; r++ {
		if !slices.Contains([]rune("ABCDHJKm"), r) {
			runes = append(runes, r)
		}
	}
	for _, r := range runes {
		for _, s := range []string{"", "a", "ab", "abc", "abcd", "\x1b[7;41ma"} {
			e := fed(t, 2, 2, s)
			was := e.Copy()
			e.Do(sequence(r), sequence(r, 0), sequence(r, 1, 1), sequence(r, 2))
			if !same(e, was) {
				t.Errorf("sequence %#x behind %q: %q, not %q", r, s, seen(e), seen(was))
			}
		}
	}
}

func TestOtherKinds(t *testing.T) {
	for _, kind := range []int{0, 4, 5, -1, -2, -3, 255, 257, 258, 259, math.MinInt, math.MaxInt} {
		for _, r := range []rune{'a', 'A', 'H', 'J', 'm', 8, 0xa, 0xd, 0x301, 'あ'} {
			e := fed(t, 2, 2, "\x1b[31mabc")
			was := e.Copy()
			e.Do(Event{Kind: kind, R: r}, Event{Kind: kind, R: r, N: []int{1}})
			if !same(e, was) {
				t.Errorf("kind %d of %q: %q, not %q", kind, r, seen(e), seen(was))
			}
		}
	}
	// What a kind has no numbers for does without them.
	e := must(t, 2, 3)
	e.Do(Event{Kind: 1, R: 'A', N: []int{2}}, Event{Kind: 1, R: 'B', N: []int{-1, 7}}, Event{Kind: 2, R: 0xa, N: []int{3}})
	if have := seen(e); have != "AB |   | 1,2" {
		t.Error(have)
	}
}

func TestManyNumbers(t *testing.T) {
	l := slices.Repeat([]int{1}, 1000)
	e := must(t, 2, 2)
	e.Do(Event{Kind: 3, R: 'm', N: append(l, 42)})
	if e.Pen() != (Pen{Flags: 1, Back: 3}) {
		t.Error(e.Pen())
	}
	e.Do(Event{Kind: 3, R: 'H', N: append([]int{2, 2}, l...)})
	if have := seen(e); have != "  |  | 1,1" {
		t.Error(have)
	}
}

func TestDoIsFeed(t *testing.T) {
	for _, s := range []string{"abcdefg", "aあb\u0301\n\x1b[31;42mx\x1b[2Jy", "\x1b[2;2Hq\x1b[1Jあい\b\b\x1b[Kz", "\xe2\x82", "\xff\x1b["} {
		a, b := must(t, 2, 3), must(t, 2, 3)
		a.Feed(append([]byte(s), 0x18)...)
		b.Do(parse.All(append([]byte(s), 0x18))...)
		if !same(a, b) {
			t.Errorf("%q: %q, not %q", s, seen(a), seen(b))
		}
	}
}

func TestOfNothing(t *testing.T) {
	for _, s := range []string{"", "a", "ab", "abc", "a\xe2\x82", "a\x1b", "a\x1b[4", "\x1b[31;42mab"} {
		e := fed(t, 2, 2, s)
		was := e.Copy()
		e.Feed()
		e.Feed(nil...)
		e.Feed([]byte{}...)
		e.Do()
		e.Do(nil...)
		e.Do([]Event{}...)
		if !same(e, was) {
			t.Errorf("%q: %q, not %q", s, seen(e), seen(was))
		}
		// The parser too stands where it stood.
		e.Feed('\xac', 'm', 'x')
		was.Feed('\xac', 'm', 'x')
		if !same(e, was) {
			t.Errorf("%q: %q, not %q, behind more", s, seen(e), seen(was))
		}
	}
}

func TestRest(t *testing.T) {
	for _, x := range []struct {
		bytes string
		rest  bool
	}{
		{"", true}, {"a", true}, {"ab", true}, {"abc", true}, {"\n", true},
		{"\xe2", false}, {"\xe2\x82", false}, {"\xe2\x82\xac", true}, {"\xe2\x82\n", true}, {"\xff", true},
		{"\x1b", false}, {"\x1b(", false}, {"\x1b(B", true}, {"\x1b[", false}, {"\x1b[3", false}, {"\x1b[3\n", false}, {"\x1b[?", false}, {"\x1b[3m", true}, {"\x1b[?3h", true},
		{"\x1b[3\x18", true}, {"\x1b[3\xc3", false}, {"\x1b[3\xc3\xa9", true},
	} {
		if have := fed(t, 2, 2, x.bytes).Rest(); have != x.rest {
			t.Errorf("%q: %v, not %v", x.bytes, have, x.rest)
		}
	}
}

func TestDoLeavesTheParser(t *testing.T) {
	e := fed(t, 1, 5, "\x1b[3")
	e.Do(printed('a'), sequence('m', 4), controlled(0x18))
	if e.Rest() {
		t.Error("at rest")
	}
	e.Feed('1', 'm', 'b')
	if have, want := at(t, e, 0, 1), (Cell{R: 'b', W: 1, Pen: Pen{Flags: 4, Fore: 2}}); have != want {
		t.Errorf("%v, not %v", have, want)
	}
	e.Feed(0xe3, 0x81)
	e.Do(printed('c'))
	e.Feed(0x82)
	if have := seen(e); have != "abcあ| 0,4!" {
		t.Error(have)
	}
}

func TestResize(t *testing.T) {
	for _, x := range []struct {
		bytes      string
		rows, cols int
		want       string
	}{
		{"abcd", 2, 3, "abc|d  | 1,1"},
		{"abc", 2, 3, "abc|   | 0,2"},
		{"abc", 2, 2, "ab|  | 0,1"},
		{"abc", 2, 4, "abc |    | 0,2"},
		{"abcdef", 1, 3, "abc| 0,2"},
		{"abcdef", 1, 1, "a| 0,0"},
		{"abcd", 1, 2, "ab| 0,1"},
		{"abcd", 4, 5, "abc  |d    |     |     | 1,1"},
		{"aあ", 2, 2, "a |  | 0,1"},
		{"あx", 2, 1, " | | 0,0"},
		{"a\u0301", 1, 1, "a\u0301| 0,0"},
	} {
		e := fed(t, 2, 3, x.bytes)
		if f := e.Resize(x.rows, x.cols); f != api.OK || seen(e) != x.want || !grid.Right(e.Grid()) {
			t.Errorf("%q, %d, %d: %d, %q, not %q", x.bytes, x.rows, x.cols, f, seen(e), x.want)
		}
	}
}

func TestResizeKeepsPenAndParser(t *testing.T) {
	e := fed(t, 2, 2, "\x1b[31;44mab\x1b[3")
	if f := e.Resize(1, 4); f != api.OK || e.Pen() != (Pen{Fore: 2, Back: 5}) || e.Rest() || e.Wrap() {
		t.Error(f, e.Pen(), e.Rest(), e.Wrap())
	}
	// What is new has the zero pen; what is printed then goes on at the cursor.
	if have := at(t, e, 0, 3); have != blankOf(Pen{}) {
		t.Error(have)
	}
	e.Feed([]byte("2mxy")...)
	if have := seen(e); have != "axy | 0,3" {
		t.Error(have)
	}
	if have, want := at(t, e, 0, 1), (Cell{R: 'x', W: 1, Pen: Pen{Fore: 3, Back: 5}}); have != want {
		t.Errorf("%v, not %v", have, want)
	}
	e = fed(t, 1, 4, "\xe3\x81")
	if f := e.Resize(2, 2); f != api.OK {
		t.Error(f)
	}
	e.Feed(0x82, 'a')
	if have := seen(e); have != "あ|a | 1,1" {
		t.Error(have)
	}
	e.Feed([]byte("bc\n")...)
	if have := seen(e); have != "c |  | 1,1" {
		t.Error(have)
	}
}

func TestResizeRefused(t *testing.T) {
	for _, s := range []string{"", "a", "ab", "abc", "\x1b[31;42mabc\x1b[4", "ab\xe3\x81"} {
		for _, bad := range []int{0, -1, 513, math.MinInt, math.MaxInt} {
			for _, x := range [][2]int{{bad, 1}, {1, bad}, {bad, bad}, {2, bad}, {bad, 2}, {512, bad}, {bad, 512}} {
				e := fed(t, 2, 2, s)
				was := e.Copy()
				if f := e.Resize(x[0], x[1]); f != api.ErrSize || !same(e, was) {
					t.Errorf("%q, %v: %d, %q, not %q", s, x, f, seen(e), seen(was))
				}
				e.Feed(0x82, 'm', 'x')
				was.Feed(0x82, 'm', 'x')
				if !same(e, was) {
					t.Errorf("%q, %v: %q, not %q, behind more", s, x, seen(e), seen(was))
				}
			}
		}
	}
}

func TestCopy(t *testing.T) {
	for _, x := range []struct{ bytes, first, second, wantFirst, wantSecond string }{
		{"a", "b", "c\n", "ab|  | 0,1!", "ac|  | 1,1"},
		// About to wrap.
		{"ab", "c", "\rd", "ab|c | 1,1", "db|  | 0,1"},
		// Amid a scalar.
		{"\xe3\x81", "\x82", "\x84x", "あ|  | 0,1!", "い|x | 1,1"},
		// Amid a sequence.
		{"ab\x1b[2", "J", ";1Hx", "  |  | 0,1!", "ab|x | 1,1"},
		{"ab\x1b", "[K", "(Bx", "a |  | 0,1!", "ab|x | 1,1"},
	} {
		e := fed(t, 2, 2, x.bytes)
		c := e.Copy()
		if c == e || !same(c, e) {
			t.Fatalf("%q: %q, not %q", x.bytes, seen(c), seen(e))
		}
		e.Feed([]byte(x.first)...)
		c.Feed([]byte(x.second)...)
		if seen(e) != x.wantFirst || seen(c) != x.wantSecond {
			t.Errorf("%q: %q and %q, not %q and %q", x.bytes, seen(e), seen(c), x.wantFirst, x.wantSecond)
		}
		// The other way round: the copy is fed first.
		e = fed(t, 2, 2, x.bytes)
		c = e.Copy()
		c.Feed([]byte(x.second)...)
		e.Feed([]byte(x.first)...)
		if seen(e) != x.wantFirst || seen(c) != x.wantSecond {
			t.Errorf("%q: %q and %q, not %q and %q, the copy first", x.bytes, seen(e), seen(c), x.wantFirst, x.wantSecond)
		}
	}
}

func TestCopyHasPenAndSize(t *testing.T) {
	e := fed(t, 2, 2, "\x1b[1;31;44mab")
	c := e.Copy()
	c.Feed([]byte("\x1b[32mx")...)
	if e.Pen() != (Pen{Flags: 1, Fore: 2, Back: 5}) || c.Pen() != (Pen{Flags: 1, Fore: 3, Back: 5}) {
		t.Error(e.Pen(), c.Pen())
	}
	if f := c.Resize(1, 5); f != api.OK || seen(e) != "ab|  | 0,1!" || seen(c) != "ab   | 0,1" {
		t.Error(f, seen(e), seen(c))
	}
	d := e.Copy()
	if f := e.Resize(3, 1); f != api.OK || seen(e) != "a| | | 0,0" || seen(d) != "ab|  | 0,1!" {
		t.Error(f, seen(e), seen(d))
	}
}

func TestGridIsACopy(t *testing.T) {
	e := fed(t, 2, 2, "ab\x1b[41m")
	a, b := e.Grid(), e.Grid()
	if a == b || !grid.Same(a, b) {
		t.Fatal("not two that are the same")
	}
	a.Put(0, 0, Cell{R: 'x', W: 1})
	a.Erase(1, 0, 2, Pen{Flags: 1})
	a.Mark(0, 1, 0x301)
	a.Scroll(1, Pen{})
	a.Move(1, 0)
	if seen(e) != "ab|  | 0,1!" || text(b) != "ab|  |" || b.Row() != 0 || b.Col() != 1 {
		t.Error(seen(e), text(b))
	}
	e.Feed([]byte("c\x1b[Hz\x1b[K\n\n\u0301")...)
	if text(b) != "ab|  |" || b.Row() != 0 || b.Col() != 1 {
		t.Error(text(b))
	}
	e.Resize(1, 1)
	if b.Rows() != 2 || b.Cols() != 2 {
		t.Error(b.Rows(), b.Cols())
	}
}

func TestNothingIsChangedOrKept(t *testing.T) {
	room := []byte("a\x1b[31mb\xe3\x81spare")
	b := room[:9]
	e := must(t, 1, 4)
	e.Feed(b...)
	if string(room) != "a\x1b[31mb\xe3\x81spare" {
		t.Errorf("%q", room)
	}
	clear(room)
	e.Feed(0x82)
	if have := seen(e); have != "abあ| 0,3!" {
		t.Error(have)
	}
	numbers := []int{4, -1, 42, 5, 5}
	l := []Event{{Kind: 3, R: 'm', N: numbers[:3]}, {Kind: 3, R: 'H', N: numbers[:2]}, {Kind: 3, R: 'J', N: numbers[1:2]}, printed('x')}[:3]
	e.Do(l...)
	if !slices.Equal(numbers, []int{4, -1, 42, 5, 5}) || !parse.Same(l[:4], []Event{sequence('m', 4, -1, 42), sequence('H', 4, -1), sequence('J', -1), printed('x')}) {
		t.Error(numbers, l[:4])
	}
	was := e.Copy()
	clear(numbers)
	clear(l[:4])
	if !same(e, was) || e.Pen() != (Pen{Back: 3}) {
		t.Error(seen(e), e.Pen())
	}
}

func TestNilEmulator(t *testing.T) {
	var e *emu.Emu
	e.Feed()
	e.Feed('a', 0x1b, '[', 'm')
	e.Do()
	e.Do(printed('a'), controlled(0xa), sequence('J', 2), Event{})
	if g := e.Grid(); g != nil {
		t.Error(g)
	}
	if p := e.Pen(); p != (Pen{}) {
		t.Error(p)
	}
	if e.Wrap() || e.Rest() {
		t.Error(e.Wrap(), e.Rest())
	}
	for _, x := range [][2]int{{1, 1}, {24, 80}, {0, 0}, {513, 1}, {math.MinInt, math.MaxInt}} {
		if f := e.Resize(x[0], x[1]); f != api.ErrArg {
			t.Errorf("%v: %d", x, f)
		}
	}
	if c := e.Copy(); c != nil {
		t.Error(c)
	}
}
