package diff_test

import (
	"math"
	"math/rand"
	"testing"

	"prolepsis/api"
	"prolepsis/diff"
	"prolepsis/grid"
	"prolepsis/line"
)

// plain is a difference that nothing is wrong with, of 2 rows and 4 columns.
func plain() Diff {
	return Diff{2, 4, 1, 3, []Span{{0, 1, Line{a, b}}, {1, 0, Line{b, b, b, b}}}}
}

// P11.2: each error, at its edge and just beyond it.
func TestCheckByHand(t *testing.T) {
	for i, x := range []struct {
		change func(d *Diff)
		want   api.Errno
	}{
		{func(d *Diff) {}, 0},
		{func(d *Diff) { d.Spans = nil }, 0},
		{func(d *Diff) { d.Spans = []Span{} }, 0},
		{func(d *Diff) { *d = Diff{} }, 11},
		{func(d *Diff) { *d = Diff{Rows: 1, Cols: 1} }, 0},
		{func(d *Diff) { d.Rows = 0 }, 11},
		{func(d *Diff) { d.Rows = -1 }, 11},
		{func(d *Diff) { d.Rows = 512 }, 0},
		{func(d *Diff) { d.Rows = 513 }, 11},
		{func(d *Diff) { d.Rows = math.MinInt }, 11},
		{func(d *Diff) { d.Rows = math.MaxInt }, 11},
		{func(d *Diff) { d.Cols = 0 }, 11},
		{func(d *Diff) { d.Cols = -1 }, 11},
		{func(d *Diff) { d.Cols = 512 }, 0},
		{func(d *Diff) { d.Cols = 513 }, 11},
		{func(d *Diff) { d.Cols = math.MinInt }, 11},
		{func(d *Diff) { d.Cols = math.MaxInt }, 11},
		{func(d *Diff) { d.Row = 0 }, 0},
		{func(d *Diff) { d.Row = -1 }, 5},
		{func(d *Diff) { d.Row = 2 }, 5},
		{func(d *Diff) { d.Row = math.MinInt }, 5},
		{func(d *Diff) { d.Row = math.MaxInt }, 5},
		{func(d *Diff) { d.Col = 0 }, 0},
		{func(d *Diff) { d.Col = -1 }, 5},
		{func(d *Diff) { d.Col = 4 }, 5},
		{func(d *Diff) { d.Col = math.MinInt }, 5},
		{func(d *Diff) { d.Col = math.MaxInt }, 5},
		{func(d *Diff) { d.Spans[1].Row = 0 }, 17},
		{func(d *Diff) { d.Spans[1].Row = -1 }, 17},
		{func(d *Diff) { d.Spans[1].Row = math.MinInt }, 17},
		{func(d *Diff) { d.Spans[1].Row = 2 }, 5},
		{func(d *Diff) { d.Spans[1].Row = math.MaxInt }, 5},
		{func(d *Diff) { d.Spans[0].Row = 1 }, 17},
		{func(d *Diff) { d.Spans[0].Row = -1 }, 5},
		{func(d *Diff) { d.Spans[0].Row = math.MinInt }, 5},
		{func(d *Diff) { d.Spans[0].Row = 2 }, 5},
		{func(d *Diff) { d.Spans[0].Row = math.MaxInt }, 5},
		{func(d *Diff) { d.Spans[0].Col = 0 }, 0},
		{func(d *Diff) { d.Spans[0].Col = 2 }, 0},
		{func(d *Diff) { d.Spans[0].Col = 3 }, 5},
		{func(d *Diff) { d.Spans[0].Col = 4 }, 5},
		{func(d *Diff) { d.Spans[0].Col = -1 }, 5},
		{func(d *Diff) { d.Spans[0].Col = math.MinInt }, 5},
		{func(d *Diff) { d.Spans[0].Col = math.MaxInt }, 5},
		{func(d *Diff) { d.Spans[0].Col = math.MaxInt - 1 }, 5},
		{func(d *Diff) { d.Spans[0] = Span{0, 3, Line{a}} }, 0},
		{func(d *Diff) { d.Spans[0] = Span{0, 4, Line{a}} }, 5},
		{func(d *Diff) { d.Spans[0].Cells = times(3, a) }, 0},
		{func(d *Diff) { d.Spans[0].Cells = times(4, a) }, 5},
		{func(d *Diff) { d.Spans[1].Cells = times(5, a) }, 5},
		{func(d *Diff) { d.Spans[1].Cells = times(600, a) }, 5},
		{func(d *Diff) { d.Spans[0].Cells = nil }, 3},
		{func(d *Diff) { d.Spans[1].Cells = Line{} }, 3},
		{func(d *Diff) { d.Spans = append(d.Spans, Span{}) }, 17},
		{func(d *Diff) { d.Rows, d.Spans = 3, append(d.Spans, Span{2, 3, Line{a}}) }, 0},
		{func(d *Diff) { d.Rows, d.Spans = 3, append(d.Spans, Span{2, 4, nil}) }, 5},
		{func(d *Diff) { d.Rows, d.Spans = 3, append(d.Spans, Span{2, 3, nil}) }, 3},
		{func(d *Diff) { d.Spans = d.Spans[1:] }, 0},
	} {
		d := plain()
		x.change(&d)
		if e := diff.Check(d); e != x.want || modelCheck(d) != x.want {
			t.Errorf("change %d: %d, not %d", i, e, x.want)
		}
		checkApply(t, "check", d, must(t, 0, 0, times(4, a)))
	}
	if api.ErrSize != 11 || api.ErrRange != 5 || api.ErrOrder != 17 || api.ErrForm != 3 || api.ErrArg != 1 {
		t.Error("the errors' numbers")
	}
}

// P11.2: where two errors hold, the first one of the chapter's; and one of a span ahead, before one behind.
func TestCheckOrder(t *testing.T) {
	for i, x := range []struct {
		change func(d *Diff)
		want   api.Errno
	}{
		{func(d *Diff) { d.Rows, d.Row = 0, 9 }, 11},
		{func(d *Diff) { d.Cols, d.Spans[1].Row = 513, 0 }, 11},
		{func(d *Diff) { d.Rows, d.Spans[0].Cells = 513, nil }, 11},
		{func(d *Diff) { d.Row, d.Spans[1].Row = 2, 0 }, 5},
		{func(d *Diff) { d.Col, d.Spans[0].Cells = 4, nil }, 5},
		{func(d *Diff) { d.Spans[1] = Span{0, 9, Line{a}} }, 17},
		{func(d *Diff) { d.Spans[1] = Span{-1, 0, Line{a}} }, 17},
		{func(d *Diff) { d.Spans[1] = Span{0, 0, nil} }, 17},
		{func(d *Diff) { d.Spans[1] = Span{0, 4, times(9, a)} }, 17},
		{func(d *Diff) { d.Spans[1] = Span{2, 0, nil} }, 5},
		{func(d *Diff) { d.Spans[1] = Span{1, 4, nil} }, 5},
		{func(d *Diff) { d.Spans[1] = Span{1, -1, Line{}} }, 5},
		{func(d *Diff) { d.Spans[0].Cells, d.Spans[1].Row = nil, 0 }, 3},
		{func(d *Diff) { d.Spans[0].Cells, d.Spans[1].Col = nil, 9 }, 3},
		{func(d *Diff) { d.Spans[0].Col, d.Spans[1].Row = -1, -5 }, 5},
		{func(d *Diff) { d.Spans[0].Col, d.Spans[1].Cells = 3, nil }, 5},
		{func(d *Diff) { d.Spans[0].Row, d.Spans[1].Row = -2, -1 }, 5},
		{func(d *Diff) { d.Spans[0].Row, d.Spans[1].Row = math.MaxInt-1, math.MaxInt }, 5},
	} {
		d := plain()
		x.change(&d)
		if e := diff.Check(d); e != x.want {
			t.Errorf("change %d: %d, not %d", i, e, x.want)
		}
		checkApply(t, "order", d, must(t, 0, 0, times(4, a)))
	}
}

// P11.2: all numbers, one in each place at a time, and two of them.
func TestCheckNumbers(t *testing.T) {
	places := []func(d *Diff) *int{
		func(d *Diff) *int { return &d.Rows },
		func(d *Diff) *int { return &d.Cols },
		func(d *Diff) *int { return &d.Row },
		func(d *Diff) *int { return &d.Col },
		func(d *Diff) *int { return &d.Spans[0].Row },
		func(d *Diff) *int { return &d.Spans[0].Col },
		func(d *Diff) *int { return &d.Spans[1].Row },
		func(d *Diff) *int { return &d.Spans[1].Col },
	}
	for _, one := range places {
		for _, other := range places {
			for _, n := range numbers {
				for _, m := range numbers {
					d := plain()
					*one(&d), *other(&d) = n, m
					if e := diff.Check(d); e != modelCheck(d) {
						t.Errorf("%d, not %d, of %v", e, modelCheck(d), d)
					}
				}
			}
		}
	}
}

// P11.2: a cell that isn't right is nothing that Check tells.
func TestCheckTellsNoCells(t *testing.T) {
	for _, c := range append(wrongCells(), left, right) {
		d := plain()
		d.Spans[0].Cells[0] = c
		if e := diff.Check(d); e != api.OK {
			t.Errorf("%v: %d", c, e)
		}
	}
}

// P11.3: what is made, by hand.
func TestApplyByHand(t *testing.T) {
	g := must(t, 1, 2, Line{a, leftI, rightI, b}, Line{left, right, a, a})
	for _, x := range []struct {
		d    Diff
		want *Grid
	}{
		{Diff{2, 4, 1, 2, nil}, g},
		{Diff{2, 4, 0, 3, nil}, must(t, 0, 3, g.Line(0), g.Line(1))},
		{Diff{2, 4, 0, 0, []Span{{0, 0, Line{b}}}}, must(t, 0, 0, Line{b, leftI, rightI, b}, g.Line(1))},
		{Diff{2, 4, 0, 0, []Span{{0, 3, Line{two}}, {1, 2, Line{aI}}}}, must(t, 0, 0, Line{a, leftI, rightI, two}, Line{left, right, aI, a})},
		{Diff{2, 4, 0, 0, []Span{{0, 1, Line{a, a}}}}, must(t, 0, 0, Line{a, a, a, b}, g.Line(1))},
		{Diff{2, 4, 0, 0, []Span{{1, 0, Line{a, left, right, b}}}}, must(t, 0, 0, g.Line(0), Line{a, left, right, b})},
		{Diff{2, 4, 0, 0, []Span{{1, 0, Line{leftM}}}}, must(t, 0, 0, g.Line(0), Line{leftM, right, a, a})},
		{Diff{2, 4, 0, 0, []Span{{1, 1, Line{right, left, right}}}}, must(t, 0, 0, g.Line(0), Line{left, right, left, right})},
		{Diff{2, 4, 0, 0, []Span{{1, 1, Line{right}}}}, must(t, 0, 0, g.Line(0), g.Line(1))},
		{Diff{1, 2, 0, 1, nil}, must(t, 0, 1, Line{a, blankI})},
		{Diff{1, 2, 0, 1, []Span{{0, 1, Line{b}}}}, must(t, 0, 1, Line{a, b})},
		{Diff{1, 1, 0, 0, []Span{{0, 0, Line{b}}}}, must(t, 0, 0, Line{b})},
		{Diff{3, 5, 2, 4, []Span{{1, 4, Line{b}}, {2, 3, Line{left, right}}}}, must(t, 2, 4, Line{a, leftI, rightI, b, blank}, Line{left, right, a, a, b}, Line{blank, blank, blank, left, right})},
		{Diff{1, 6, 0, 5, []Span{{0, 2, Line{rightI, b, a}}}}, must(t, 0, 5, Line{a, leftI, rightI, b, a, blank})},
		{Diff{3, 1, 2, 0, []Span{{2, 0, Line{aI}}}}, must(t, 2, 0, Line{a}, Line{blank}, Line{aI})},
	} {
		made, e := diff.Apply(x.d, g)
		if e != api.OK || !grid.Same(made, x.want) {
			t.Errorf("%v: %d", x.d, e)
		}
		checkApply(t, "by hand", x.d, g)
	}
}

// P11.3: ErrForm, if a half is left alone, halves have two pens, or a cell isn't right.
func TestApplyForm(t *testing.T) {
	g := must(t, 1, 2, Line{a, leftI, rightI, b}, Line{left, right, a, a})
	for _, s := range []Span{
		{0, 0, Line{left}},
		{0, 1, Line{a}},
		{0, 2, Line{a}},
		{0, 1, Line{left}},
		{0, 2, Line{right}},
		{0, 0, Line{a, a}},
		{0, 2, Line{a, a}},
		{0, 3, Line{left}},
		{0, 3, Line{right}},
		{0, 0, Line{right}},
		{0, 2, Line{left, right}},
		{0, 0, Line{left, right}},
		{0, 0, Line{left, a, a, a}},
		{1, 0, Line{left, left}},
		{1, 1, Line{left, right}},
		{1, 0, Line{leftI}},
		{1, 1, Line{rightI}},
		{1, 2, Line{right}},
	} {
		d := Diff{2, 4, 0, 0, []Span{s}}
		if made, e := diff.Apply(d, g); made != nil || e != api.ErrForm {
			t.Errorf("%v: %v, %d", s, made, e)
		}
		checkApply(t, "form", d, g)
	}
	for _, c := range wrongCells() {
		for r := range 2 {
			for col := range 4 {
				d := Diff{2, 4, 1, 1, []Span{{r, col, Line{c}}}}
				if made, e := diff.Apply(d, g); made != nil || e != api.ErrForm {
					t.Errorf("%v: %v, %d", c, made, e)
				}
			}
		}
	}
}

// P11.3: each span's row must be right: the first one's, one amid others, and the last one's.
func TestApplyFormOfOneSpan(t *testing.T) {
	g := must(t, 0, 0, times(3, a), times(3, a), times(3, a))
	for i := range 3 {
		d := Diff{3, 3, 0, 0, []Span{{0, 0, Line{b}}, {1, 1, Line{b}}, {2, 2, Line{b}}}}
		if made, e := diff.Apply(d, g); e != api.OK || line.Text(made.Line(i)) != []string{"baa", "aba", "aab"}[i] {
			t.Error(e)
		}
		d.Spans[i].Cells[0] = left
		if made, e := diff.Apply(d, g); made != nil || e != api.ErrForm {
			t.Errorf("span %d: %d", i, e)
		}
		checkApply(t, "one span", d, g)
	}
}

// P11.3: a nil grid ahead of all that is wrong with a difference; that, ahead of rows that aren't right.
func TestApplyOrder(t *testing.T) {
	wrong := plain()
	wrong.Spans[0].Cells[0] = left
	for _, d := range []Diff{{}, plain(), wrong, {Rows: 513}, {Rows: 1, Cols: 1, Row: 1}, {1, 1, 0, 0, []Span{{}}}} {
		if made, e := diff.Apply(d, nil); made != nil || e != api.ErrArg {
			t.Errorf("%v: %v, %d", d, made, e)
		}
	}
	g := must(t, 0, 0, times(4, a), times(4, a))
	for i, x := range []struct {
		change func(d *Diff)
		want   api.Errno
	}{
		{func(d *Diff) {}, 3},
		{func(d *Diff) { d.Rows = 0 }, 11},
		{func(d *Diff) { d.Col = 4 }, 5},
		{func(d *Diff) { d.Spans[1].Row = 0 }, 17},
		{func(d *Diff) { d.Spans[1].Col = 1 }, 5},
		{func(d *Diff) { d.Spans[1].Row = 2 }, 5},
	} {
		d := cloneDiff(wrong)
		x.change(&d)
		if made, e := diff.Apply(d, g); made != nil || e != x.want {
			t.Errorf("change %d: %v, %d", i, made, e)
		}
	}
}

// P11.3: the grid stays as it was, and what is made shares nothing with it, or with the difference.
func TestApplyMemory(t *testing.T) {
	g := must(t, 1, 1, Line{a, left, right, b}, times(4, b))
	was := g.Copy()
	for _, d := range []Diff{{2, 4, 1, 1, nil}, {2, 4, 0, 3, []Span{{0, 0, Line{b}}, {1, 3, Line{two}}}}, {1, 2, 0, 0, nil}} {
		whole := cloneDiff(d)
		made, e := diff.Apply(d, g)
		if e != api.OK || made == g {
			t.Fatal(e)
		}
		want := made.Copy()
		made.Put(0, 0, two)
		made.Scroll(1, ink)
		made.Move(0, 0)
		if !grid.Same(g, was) || !sameDiff(d, whole) {
			t.Error("what was handed in is another one")
		}
		again, _ := diff.Apply(d, g)
		for _, s := range d.Spans {
			for i := range s.Cells {
				s.Cells[i] = one
			}
		}
		g.Put(0, 3, two)
		if !grid.Same(again, want) {
			t.Error("what is made is shared")
		}
		g = was.Copy()
	}
}

// P11.3: a span's spare room, and what stands behind it, stays as it was.
func TestApplySpareRoom(t *testing.T) {
	cells := Line{b, b, two, two}
	spans := []Span{{0, 0, cells[:1]}, {1, 1, cells[1:2]}, {9, 9, nil}}
	d := Diff{2, 3, 0, 0, spans[:2]}
	g := must(t, 0, 0, times(3, a), times(3, a))
	if _, e := diff.Apply(d, g); e != api.OK || !diff.Same(d, d) || diff.Check(d) != api.OK || diff.Cells(d) != 2 {
		t.Error(e)
	}
	if !line.Same(cells, Line{b, b, two, two}) || spans[2].Row != 9 {
		t.Error("spare room")
	}
}

// P11.2, P11.3: differences by chance, most of them wrong in some way, of grids of other sizes.
func TestApplyByChance(t *testing.T) {
	rnd := rand.New(rand.NewSource(3))
	kinds := append(Line{blank, blankI, a, one, two, left, leftI, right, rightI, left, right}, wrongCells()[:3]...)
	number := func(most int) int {
		if rnd.Intn(30) == 0 {
			return numbers[rnd.Intn(len(numbers))]
		}
		return rnd.Intn(most)
	}
	seen := map[api.Errno]int{}
	for range 20000 {
		d := Diff{Rows: 1 + number(4), Cols: 1 + number(5)}
		if d.Rows*d.Cols > 10000 {
			d.Cols = 3
		}
		d.Row, d.Col = number(max(d.Rows, 1)), number(max(d.Cols, 1))
		for r := range 4 {
			if rnd.Intn(2) == 0 {
				continue
			}
			s := Span{Row: r, Col: number(3)}
			if rnd.Intn(12) == 0 {
				s.Row = number(5)
			}
			if rnd.Intn(3) == 0 {
				s.Cells = anyLine(rnd, rnd.Intn(4))
			} else {
				for range rnd.Intn(4) {
					s.Cells = append(s.Cells, kinds[rnd.Intn(len(kinds))])
				}
			}
			d.Spans = append(d.Spans, s)
		}
		g := anyGrid(t, rnd, 1+rnd.Intn(4), 1+rnd.Intn(5))
		checkApply(t, "by chance", d, g)
		_, e := diff.Apply(d, g)
		seen[e]++
	}
	for _, e := range []api.Errno{api.OK, api.ErrSize, api.ErrRange, api.ErrOrder, api.ErrForm} {
		if seen[e] < 100 {
			t.Errorf("%d was met %d times", e, seen[e])
		}
	}
}

// P2: the same calls, the same answers.
func TestSameAnswers(t *testing.T) {
	rnd := rand.New(rand.NewSource(2))
	for range 200 {
		from, to := anyGrid(t, rnd, 3, 5), anyGrid(t, rnd, 1+rnd.Intn(4), 1+rnd.Intn(6))
		d := diff.Of(from, to)
		made, e := diff.Apply(d, from)
		for range 3 {
			again, f := diff.Apply(diff.Of(from, to), from)
			if !diff.Same(d, diff.Of(from, to)) || f != e || !grid.Same(made, again) || diff.Check(d) != api.OK {
				t.Fatal("another answer")
			}
		}
	}
}

// P1: no numbers, and no cells, make a call panic; its answer is the model's.
func FuzzApply(f *testing.F) {
	f.Add(2, 4, 1, 3, 0, 1, 1, 0, uint8(2), uint8(4), int64(1))
	f.Add(1, 1, 0, 0, 0, 0, 0, 0, uint8(1), uint8(0), int64(2))
	f.Add(512, 512, 511, 511, 0, 511, 511, 0, uint8(1), uint8(255), int64(3))
	f.Add(-1, math.MaxInt, math.MinInt, 0, 0, math.MaxInt, math.MinInt, 0, uint8(1), uint8(2), int64(4))
	f.Fuzz(func(t *testing.T, rows, cols, row, col, r0, c0, r1, c1 int, n0, n1 uint8, seed int64) {
		rnd := rand.New(rand.NewSource(seed))
		d := Diff{rows, cols, row, col, []Span{{r0, c0, anyLine(rnd, int(n0))}, {r1, c1, anyLine(rnd, int(n1))}}}
		if d.Rows > 20 && d.Cols > 20 && modelCheck(d) == 0 {
			t.Skip("a great grid takes the model long")
		}
		g := anyGrid(t, rnd, 1+rnd.Intn(5), 1+rnd.Intn(9))
		checkApply(t, "fuzz", d, g)
		if made, e := diff.Apply(d, g); e == api.OK {
			checkOf(t, "fuzz", g, made)
		}
	})
}
