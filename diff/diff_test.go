package diff_test

import (
	"math"
	"math/rand"
	"testing"

	"prolepsis/api"
	"prolepsis/diff"
	"prolepsis/grid"
	"prolepsis/pen"
)

// The chapter's example.
func TestExample(t *testing.T) {
	from := must(t, 0, 0, times(4, blank))
	to := must(t, 0, 2, Line{a, b, blank, blank})
	want := Diff{1, 4, 0, 2, []Span{{0, 0, Line{a, b}}}}
	if d := diff.Of(from, to); !sameDiff(d, want) {
		t.Error(d)
	}
	checkOf(t, "example", from, to)
}

// P11.1: the zero difference, if a grid is nil, or both are.
func TestOfNil(t *testing.T) {
	g := must(t, 1, 1, times(2, a), times(2, b))
	for _, x := range [][2]*Grid{{nil, nil}, {g, nil}, {nil, g}} {
		if d := diff.Of(x[0], x[1]); !sameDiff(d, Diff{}) {
			t.Error(d)
		}
	}
}

// P11.1, P11.4: one span of a row, from the first other cell to the last one: at the ends, amid others, and through those that are the same.
func TestOfOneRow(t *testing.T) {
	for _, x := range []struct {
		from, to Line
		col      int
		cells    Line
	}{
		{Line{a}, Line{a}, 0, nil},
		{Line{a}, Line{b}, 0, Line{b}},
		{Line{a, a, a, a}, Line{a, a, a, a}, 0, nil},
		{Line{a, a, a, a}, Line{b, a, a, a}, 0, Line{b}},
		{Line{a, a, a, a}, Line{a, b, a, a}, 1, Line{b}},
		{Line{a, a, a, a}, Line{a, a, b, a}, 2, Line{b}},
		{Line{a, a, a, a}, Line{a, a, a, b}, 3, Line{b}},
		{Line{a, a, a, a}, Line{b, a, a, b}, 0, Line{b, a, a, b}},
		{Line{a, a, a, a}, Line{a, b, b, a}, 1, Line{b, b}},
		{Line{a, a, a, a}, Line{b, b, b, b}, 0, Line{b, b, b, b}},
		{Line{a, a, a, a}, Line{b, a, b, a}, 0, Line{b, a, b}},
		{Line{a, a, a, a}, Line{a, one, a, a}, 1, Line{one}},
		{Line{a, one, a, a}, Line{a, two, a, a}, 1, Line{two}},
		{Line{a, two, a, a}, Line{a, a, a, a}, 1, Line{a}},
		{Line{a, a, a, a}, Line{a, a, aI, a}, 2, Line{aI}},
		{Line{a, blank, a, blank}, Line{a, blank, a, blankI}, 3, Line{blankI}},
		{Line{left, right, a, a}, Line{leftM, right, a, a}, 0, Line{leftM}},
		{Line{left, right, a, a}, Line{leftI, rightI, a, a}, 0, Line{leftI, rightI}},
		{Line{a, a, left, right}, Line{a, a, leftI, rightI}, 2, Line{leftI, rightI}},
		{Line{left, right, left, right}, Line{leftM, right, left, right}, 0, Line{leftM}},
		{Line{left, right, left, right}, Line{leftM, right, leftM, right}, 0, Line{leftM, right, leftM}},
		{Line{left, right, left, right}, Line{a, left, right, a}, 0, Line{a, left, right, a}},
		{Line{left, right, a, a}, Line{a, a, a, a}, 0, Line{a, a}},
		{Line{a, a, a, a}, Line{a, left, right, a}, 1, Line{left, right}},
	} {
		from, to := must(t, 0, 0, x.from), must(t, 0, 0, x.to)
		want := Diff{Rows: 1, Cols: len(x.to)}
		if len(x.cells) > 0 {
			want.Spans = []Span{{0, x.col, x.cells}}
		}
		if d := diff.Of(from, to); !sameDiff(d, want) {
			t.Errorf("%v to %v: %v", x.from, x.to, d)
		}
		checkOf(t, "one row", from, to)
	}
}

// P11.1: rows that have another cell, first, amid others and last; each has a span of its own.
func TestOfRows(t *testing.T) {
	from := must(t, 0, 0, times(3, a), times(3, a), times(3, a))
	for _, x := range []struct {
		to    []Line
		spans []Span
	}{
		{[]Line{times(3, a), times(3, a), times(3, a)}, nil},
		{[]Line{{a, b, a}, times(3, a), times(3, a)}, []Span{{0, 1, Line{b}}}},
		{[]Line{times(3, a), {b, a, a}, times(3, a)}, []Span{{1, 0, Line{b}}}},
		{[]Line{times(3, a), times(3, a), {a, a, b}}, []Span{{2, 2, Line{b}}}},
		{[]Line{{a, a, b}, times(3, a), {b, a, a}}, []Span{{0, 2, Line{b}}, {2, 0, Line{b}}}},
		{[]Line{{a, a, b}, {b, a, b}, {b, a, a}}, []Span{{0, 2, Line{b}}, {1, 0, Line{b, a, b}}, {2, 0, Line{b}}}},
	} {
		to := must(t, 2, 1, x.to...)
		if d := diff.Of(from, to); !sameDiff(d, Diff{3, 3, 2, 1, x.spans}) {
			t.Errorf("to %v: %v", x.to, d)
		}
		checkOf(t, "rows", from, to)
	}
}

// P11.1: grids of two sizes: the first one is fit, and a wide cell that the new edge cuts is a blank of its pen then.
func TestOfSizes(t *testing.T) {
	from := must(t, 2, 3, Line{a, leftI, rightI, b}, Line{left, right, a, a}, Line{a, a, a, b})
	for _, x := range []struct {
		to    *Grid
		spans []Span
	}{
		{must(t, 0, 0, Line{a}), nil},
		{must(t, 0, 0, Line{a, blankI}), nil},
		{must(t, 0, 1, Line{a, blank}), []Span{{0, 1, Line{blank}}}},
		{must(t, 0, 0, Line{a, leftI, rightI}), nil},
		{must(t, 0, 0, Line{a, leftI, rightI, b, blank}), nil},
		{must(t, 0, 0, Line{a, leftI, rightI, b, blankI}), []Span{{0, 4, Line{blankI}}}},
		{must(t, 0, 0, Line{a, leftI, rightI, b, blank, a}), []Span{{0, 5, Line{a}}}},
		{must(t, 1, 0, Line{a}, Line{blank}, Line{a}, Line{blank}), nil},
		{must(t, 3, 0, Line{a}, Line{blank}, Line{a}, Line{b}), []Span{{3, 0, Line{b}}}},
		{must(t, 4, 1, Line{a, blankI}, Line{left, right}, Line{a, a}, Line{blank, blank}, Line{left, right}), []Span{{4, 0, Line{left, right}}}},
		{must(t, 0, 5, Line{a, leftI, rightI, b, blank, blank}, Line{left, right, a, a, blank, a}), []Span{{1, 5, Line{a}}}},
	} {
		want := Diff{x.to.Rows(), x.to.Cols(), x.to.Row(), x.to.Col(), x.spans}
		if d := diff.Of(from, x.to); !sameDiff(d, want) {
			t.Errorf("%v, not %v", d, want)
		}
		checkOf(t, "sizes", from, x.to)
		checkOf(t, "sizes, back", x.to, from)
	}
}

// P11.1, P11.4: a cursor that moves makes no span; nor does a grid that is the same, its copy, or itself.
func TestOfCursor(t *testing.T) {
	from := must(t, 0, 0, Line{a, left, right}, Line{b, blankI, two})
	for r := range 2 {
		for c := range 3 {
			to := from.Copy()
			to.Move(r, c)
			if d := diff.Of(from, to); !sameDiff(d, Diff{2, 3, r, c, nil}) {
				t.Error(d)
			}
			checkOf(t, "cursor", from, to)
			checkOf(t, "itself", to, to)
		}
	}
}

// P11.1, P11.4: the greatest rows and columns, with other cells at their ends.
func TestOfGreatest(t *testing.T) {
	for _, size := range [][2]int{{512, 1}, {1, 512}, {512, 2}, {2, 512}} {
		from, _ := grid.New(size[0], size[1])
		to := from.Copy()
		checkOf(t, "the same", from, to)
		to.Put(size[0]-1, size[1]-1, a)
		to.Move(size[0]-1, size[1]-1)
		checkOf(t, "the last cell", from, to)
		to.Put(0, 0, a)
		checkOf(t, "both ends", from, to)
		small := must(t, 0, 0, Line{b})
		checkOf(t, "from one cell", small, to)
		checkOf(t, "to one cell", to, small)
		all := from.Copy()
		for r := range size[0] {
			all.Erase(r, 0, size[1], ink)
		}
		if d := diff.Of(to, all); diff.Cells(d) != size[0]*size[1] || len(d.Spans) != size[0] {
			t.Errorf("%v: %d spans of %d cells", size, len(d.Spans), diff.Cells(d))
		}
	}
	from, _ := grid.New(512, 512)
	to := from.Copy()
	to.Put(0, 511, a)
	to.Put(511, 0, b)
	to.Move(511, 511)
	if d := diff.Of(from, to); !sameDiff(d, Diff{512, 512, 511, 511, []Span{{0, 511, Line{a}}, {511, 0, Line{b}}}}) {
		t.Error(d.Spans)
	}
	to.Scroll(1, pen.Pen{})
	made, e := diff.Apply(diff.Of(from, to), from)
	if e != api.OK || !grid.Same(made, to) {
		t.Error(e)
	}
}

// P11.1, P11.4: each right row of up to three columns to each one.
func TestOfShortRows(t *testing.T) {
	kinds := Line{blank, blankI, a, one, left, leftI, right, rightI}
	for n := 1; n <= 3; n++ {
		var grids []*Grid
		var grow func(l Line)
		grow = func(l Line) {
			if len(l) == n {
				if rightLine(l) {
					grids = append(grids, must(t, 0, 0, l))
				}
				return
			}
			for _, c := range kinds {
				grow(append(l[:len(l):len(l)], c))
			}
		}
		grow(nil)
		for _, from := range grids {
			for _, to := range grids {
				checkOf(t, "short rows", from, to)
			}
		}
	}
}

// P11.1, P11.4: grids by chance, of one size and of two.
func TestOfByChance(t *testing.T) {
	rnd := rand.New(rand.NewSource(11))
	for range 3000 {
		from := anyGrid(t, rnd, 1+rnd.Intn(4), 1+rnd.Intn(6))
		checkOf(t, "by chance", from, anyGrid(t, rnd, 1+rnd.Intn(4), 1+rnd.Intn(6)))
		to := from.Copy()
		for range rnd.Intn(4) {
			to.Put(rnd.Intn(to.Rows()), rnd.Intn(to.Cols()), Line{a, b, left, one, blankI}[rnd.Intn(5)])
		}
		checkOf(t, "changed", from, to)
	}
}

// P11.4: along a chain of grids, each difference applied to what the one ahead made.
func TestChain(t *testing.T) {
	rnd := rand.New(rand.NewSource(4))
	was := anyGrid(t, rnd, 3, 5)
	made := was.Copy()
	for range 300 {
		next := anyGrid(t, rnd, 1+rnd.Intn(4), 1+rnd.Intn(6))
		var e api.Errno
		if made, e = diff.Apply(diff.Of(was, next), made); e != api.OK || !grid.Same(made, next) {
			t.Fatal(e)
		}
		was = next
	}
}

// P11.1: Cells of differences, also of those that are wrong.
func TestCells(t *testing.T) {
	for _, x := range []struct {
		spans []Span
		n     int
	}{
		{nil, 0},
		{[]Span{}, 0},
		{[]Span{{}}, 0},
		{[]Span{{0, 0, Line{a}}}, 1},
		{[]Span{{0, 0, Line{}}, {-1, 0, Line{a, b}}, {0, 9, nil}}, 2},
		{[]Span{{math.MaxInt, math.MinInt, times(600, a)}, {0, 0, Line{right, leftI}}}, 602},
	} {
		for _, rows := range numbers {
			if n := diff.Cells(Diff{Rows: rows, Spans: x.spans}); n != x.n {
				t.Errorf("%v: %d, not %d", x.spans, n, x.n)
			}
		}
	}
}

// P11.1: differences that are the same, and those that differ in one thing alone.
func TestSame(t *testing.T) {
	d := Diff{2, 4, 1, 3, []Span{{0, 1, Line{a, left, right}}, {1, 0, Line{b}}}}
	if !diff.Same(d, d) || !diff.Same(d, cloneDiff(d)) || !diff.Same(Diff{}, Diff{}) {
		t.Error("the same")
	}
	for i, change := range []func(d *Diff){
		func(d *Diff) { d.Rows++ },
		func(d *Diff) { d.Cols-- },
		func(d *Diff) { d.Row = 0 },
		func(d *Diff) { d.Col = -3 },
		func(d *Diff) { d.Rows, d.Cols = d.Cols, d.Rows },
		func(d *Diff) { d.Row, d.Col = d.Col, d.Row },
		func(d *Diff) { d.Spans[0].Row = -1 },
		func(d *Diff) { d.Spans[1].Row = 2 },
		func(d *Diff) { d.Spans[0].Col = 0 },
		func(d *Diff) { d.Spans[1].Col = math.MaxInt },
		func(d *Diff) { d.Spans[0].Row, d.Spans[0].Col = 1, 0 },
		func(d *Diff) { d.Spans[0].Cells[0] = aI },
		func(d *Diff) { d.Spans[0].Cells[0] = one },
		func(d *Diff) { d.Spans[0].Cells[2].W = 1 },
		func(d *Diff) { d.Spans[0].Cells[1].M[1] = 0x301 },
		func(d *Diff) { d.Spans[1].Cells[0] = a },
		func(d *Diff) { d.Spans[1].Cells = nil },
		func(d *Diff) { d.Spans[1].Cells = append(d.Spans[1].Cells, b) },
		func(d *Diff) { d.Spans[0].Cells = d.Spans[0].Cells[:2] },
		func(d *Diff) { d.Spans[0].Cells = d.Spans[0].Cells[1:] },
		func(d *Diff) { d.Spans = d.Spans[:1] },
		func(d *Diff) { d.Spans = d.Spans[1:] },
		func(d *Diff) { d.Spans = nil },
		func(d *Diff) { d.Spans = append(d.Spans, Span{}) },
		func(d *Diff) { d.Spans[0], d.Spans[1] = d.Spans[1], d.Spans[0] },
	} {
		other := cloneDiff(d)
		change(&other)
		if diff.Same(d, other) || diff.Same(other, d) || !diff.Same(other, cloneDiff(other)) {
			t.Errorf("change %d: %v", i, other)
		}
	}
	if diff.Same(Diff{}, Diff{Spans: []Span{{}}}) {
		t.Error("a span of nothing is a span")
	}
}

// P11.1: nil and empty lists are one.
func TestSameEmpty(t *testing.T) {
	for _, x := range [][2]Diff{
		{{Rows: 1}, {Rows: 1, Spans: []Span{}}},
		{{Spans: []Span{{1, 2, nil}}}, {Spans: []Span{{1, 2, Line{}}}}},
		{{Spans: []Span{{1, 2, Line{a}[:0]}}}, {Spans: []Span{{1, 2, nil}}}},
	} {
		if !diff.Same(x[0], x[1]) || !diff.Same(x[1], x[0]) {
			t.Errorf("%v, %v: not the same", x[0], x[1])
		}
	}
	if diff.Same(Diff{Spans: []Span{{1, 2, nil}}}, Diff{Spans: []Span{{1, 2, Line{{}}}}}) {
		t.Error("a zero cell is a cell")
	}
}

// Memory: what Of tells shares nothing with its grids, and no span's room is another one's.
func TestOfMemory(t *testing.T) {
	from := must(t, 0, 0, times(4, a), times(4, a), times(4, a))
	to := must(t, 2, 3, Line{a, b, b, a}, Line{b, b, b, a}, Line{a, a, a, b})
	want := modelOf(from, to)
	d := diff.Of(from, to)
	for i, s := range d.Spans {
		if cap(s.Cells) != len(s.Cells) {
			t.Errorf("span %d: room for %d", i, cap(s.Cells))
		}
		_ = append(s.Cells, two, two, two, two)
	}
	if !sameDiff(d, want) {
		t.Errorf("put behind it: %v", d)
	}
	again := diff.Of(from, to)
	for _, s := range d.Spans {
		for i := range s.Cells {
			s.Cells[i] = two
		}
	}
	d.Spans[0] = Span{}
	if !sameDiff(again, want) || !sameDiff(diff.Of(from, to), want) {
		t.Error("what is told is shared")
	}
	from.Put(0, 0, two)
	to.Put(0, 1, two)
	to.Scroll(1, ink)
	if !sameDiff(again, want) {
		t.Error("a grid's memory is shared")
	}
}
