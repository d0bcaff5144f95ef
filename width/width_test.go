package width_test

import (
	"math"
	"slices"
	"testing"

	"prolepsis/width"
)

// ranges: from where to where runes have a width, as the chapter has them, with what is no scalar.
func ranges(w int) [][2]rune {
	switch w {
	case -1:
		return [][2]rune{{math.MinInt32, 0x1f}, {0x7f, 0x9f}, {0xd800, 0xdfff}, {0x110000, math.MaxInt32}}
	case 0:
		return [][2]rune{{0x300, 0x36f}, {0x200b, 0x200f}, {0x20d0, 0x20ff}, {0xfe00, 0xfe0f}, {0xfe20, 0xfe2f}}
	case 2:
		return [][2]rune{{0x1100, 0x115f}, {0x2e80, 0x303e}, {0x3041, 0xa4cf}, {0xac00, 0xd7a3}, {0xf900, 0xfaff},
			{0xfe30, 0xfe6f}, {0xff00, 0xff60}, {0xffe0, 0xffe6}, {0x1f300, 0x1f64f}, {0x1f900, 0x1f9ff}, {0x20000, 0x3fffd}}
	}
	return nil
}

// widthOf: by the first of the chapter's lines that holds.
func widthOf(r rune) int {
	for _, w := range []int{-1, 0, 2} {
		for _, x := range ranges(w) {
			if x[0] <= r && r <= x[1] {
				return w
			}
		}
	}
	return 1
}

// sumOf: the widths together, without those that take no part.
func sumOf(l []rune) int {
	n := 0
	for _, r := range l {
		if w := widthOf(r); w > 0 {
			n += w
		}
	}
	return n
}

// clustersOf: each rune of width 1 or 2, and the marks behind it, one after the other till something else comes.
func clustersOf(l []rune) [][]rune {
	var all [][]rune
	within := false
	for _, r := range l {
		switch widthOf(r) {
		case 1, 2:
			all, within = append(all, []rune{r}), true
		case 0:
			if within {
				all[len(all)-1] = append(all[len(all)-1], r)
			}
		default:
			within = false
		}
	}
	return all
}

// fitOf: the longest beginning whose sum is at most n.
func fitOf(n int, l []rune) int {
	for k := len(l); n >= 0 && k > 0; k-- {
		if sumOf(l[:k]) <= n {
			return k
		}
	}
	return 0
}

func sameClusters(a, b [][]rune) bool {
	return slices.EqualFunc(a, b, slices.Equal[[]rune])
}

// each goes through all lists of at most n runes, of one or two of each width; a list is right till the next one.
func each(n int, f func([]rune)) {
	kinds := []rune{'a', 0x3042, 0x301, 0x200b, 7, 0xdfff}
	var grow func(l []rune)
	grow = func(l []rune) {
		f(l)
		if len(l) == n {
			return
		}
		for _, r := range kinds {
			grow(append(l, r))
		}
	}
	grow(make([]rune, 0, n))
}

func check(t *testing.T, l []rune) {
	t.Helper()
	total := width.Total(l...)
	if want := sumOf(l); total != want {
		t.Errorf("%x: total %d, not %d", l, total, want)
	}
	clusters := width.Clusters(l...)
	if want := clustersOf(l); !sameClusters(clusters, want) {
		t.Errorf("%x: clusters %x, not %x", l, clusters, want)
	}
	together := 0
	for _, c := range clusters {
		together += width.Total(c...)
	}
	if together != total {
		t.Errorf("%x: clusters %d, total %d", l, together, total)
	}
	for n := -2; n <= 2*len(l)+1; n++ {
		if k, want := width.Fit(n, l...), fitOf(n, l); k != want {
			t.Errorf("%x: %d of them fit %d, not %d", l, k, n, want)
		}
	}
}

// P3.1: the edges by hand, each range's two ends and the runes next to them.
func TestOfEdges(t *testing.T) {
	for _, x := range []struct {
		w int
		l []rune
	}{
		{-1, []rune{math.MinInt32, -0x3042, -0x301, -'a', -2, -1, 0, 1, 7, 0x1b, 0x1e, 0x1f}},
		{-1, []rune{0x7f, 0x80, 0x9e, 0x9f}},
		{-1, []rune{0xd800, 0xd801, 0xdbff, 0xdc00, 0xdffe, 0xdfff}},
		{-1, []rune{0x110000, 0x110001, 0x200061, 0x1000041, math.MaxInt32 - 1, math.MaxInt32}},

		{0, []rune{0x300, 0x301, 0x36e, 0x36f, 0x200b, 0x200c, 0x200e, 0x200f, 0x20d0, 0x20d1, 0x20fe, 0x20ff}},
		{0, []rune{0xfe00, 0xfe01, 0xfe0e, 0xfe0f, 0xfe20, 0xfe21, 0xfe2e, 0xfe2f}},

		{2, []rune{0x1100, 0x1101, 0x115e, 0x115f, 0x2e80, 0x2e81, 0x303d, 0x303e}},
		{2, []rune{0x3041, 0x3042, 0xa4ce, 0xa4cf, 0xac00, 0xac01, 0xd7a2, 0xd7a3}},
		{2, []rune{0xf900, 0xf901, 0xfafe, 0xfaff, 0xfe30, 0xfe31, 0xfe6e, 0xfe6f}},
		{2, []rune{0xff00, 0xff01, 0xff5f, 0xff60, 0xffe0, 0xffe1, 0xffe5, 0xffe6}},
		{2, []rune{0x1f300, 0x1f301, 0x1f64e, 0x1f64f, 0x1f900, 0x1f901, 0x1f9fe, 0x1f9ff}},
		{2, []rune{0x20000, 0x20001, 0x2ffff, 0x30000, 0x3fffc, 0x3fffd}},

		{1, []rune{' ', '!', 'a', '~', 0xa0, 0xa1, 0x2ff, 0x370, 0x10ff, 0x1160, 0x200a, 0x2010, 0x20cf, 0x2100}},
		{1, []rune{0x2e7f, 0x303f, 0x3040, 0xa4d0, 0xabff, 0xd7a4, 0xd7ff, 0xe000, 0xf8ff, 0xfb00}},
		{1, []rune{0xfdff, 0xfe10, 0xfe1f, 0xfe70, 0xfeff, 0xff61, 0xffdf, 0xffe7, 0xfffd, 0xffff}},
		{1, []rune{0x10000, 0x1f2ff, 0x1f650, 0x1f8ff, 0x1fa00, 0x1ffff, 0x3fffe, 0x3ffff, 0x40000, 0x10ffff}},
	} {
		for _, r := range x.l {
			if w := width.Of(r); w != x.w {
				t.Errorf("%x: %d, not %d", r, w, x.w)
			}
		}
	}
}

// P3.1: every rune about the scalars, and what the other calls tell of it.
func TestEveryRune(t *testing.T) {
	for r := rune(-0x1000); r <= 0x111000; r++ {
		w := widthOf(r)
		if width.Of(r) != w || width.Wide(r) != (w == 2) || width.Mark(r) != (w == 0) || width.Plain(r) != (w == 1) || width.Total(r) != max(w, 0) {
			t.Fatalf("%x: %d, not %d; wide %t, mark %t, plain %t, total %d",
				r, width.Of(r), w, width.Wide(r), width.Mark(r), width.Plain(r), width.Total(r))
		}
	}
}

// P3.1: far from the scalars too nothing takes part.
func TestFarRunes(t *testing.T) {
	for bit := 21; bit < 31; bit++ {
		for _, low := range []rune{0, 'a', 0x301, 0x3042, 0x1f600} {
			for _, r := range []rune{low | 1<<bit, low | -1<<bit, low | 1<<bit | math.MinInt32} {
				if width.Of(r) != -1 || width.Wide(r) || width.Mark(r) || width.Plain(r) || width.Total(r) != 0 {
					t.Errorf("%x takes part", r)
				}
			}
		}
	}
}

// P3.1
func TestTotal(t *testing.T) {
	for _, x := range []struct {
		n int
		l []rune
	}{
		{0, nil},
		{0, []rune{}},
		{0, []rune{0x301}},
		{0, []rune{7}},
		{0, []rune{-1, 0xd800, 0x110000, 0x7f, 0x1f}},
		{1, []rune{'a'}},
		{2, []rune{0x3042}},
		{3, []rune{'a', 0x301, 0x3042}},
		{3, []rune{'a', 0x301, 0x3042, 7}},
		{3, []rune{7, 7, 7, 'a', 7, 0x3042, -7}},
		{5, []rune{0x3042, 'a', 0x1f600}},
	} {
		if n := width.Total(x.l...); n != x.n {
			t.Errorf("%x: %d, not %d", x.l, n, x.n)
		}
	}
}

// P3.2
func TestClusters(t *testing.T) {
	for _, x := range []struct {
		l    []rune
		want [][]rune
	}{
		{nil, nil},
		{[]rune{}, nil},
		{[]rune{'a'}, [][]rune{{'a'}}},
		{[]rune{0x3042}, [][]rune{{0x3042}}},
		{[]rune{0x301}, nil},
		{[]rune{7}, nil},
		{[]rune{0x301, 0x302, 0xfe00}, nil},
		{[]rune{7, 0x301, -1, 0x302, 0xd800, 0x303, 0x110000, 0x304}, nil},
		{[]rune{'a', 0x301, 0x3042}, [][]rune{{'a', 0x301}, {0x3042}}},
		{[]rune{'a', 0x3042, 'b'}, [][]rune{{'a'}, {0x3042}, {'b'}}},
		{[]rune{'a', 'a', 'a'}, [][]rune{{'a'}, {'a'}, {'a'}}},
		{[]rune{0x301, 'a'}, [][]rune{{'a'}}},
		{[]rune{0x301, 0x302, 'a', 0x303}, [][]rune{{'a', 0x303}}},
		{[]rune{7, 0x301, 'a', 0x302}, [][]rune{{'a', 0x302}}},
		{[]rune{'a', 7, 0x301}, [][]rune{{'a'}}},
		{[]rune{'a', 0x301, 7, 0x302, 0x303, 'b'}, [][]rune{{'a', 0x301}, {'b'}}},
		{[]rune{'a', 0xdfff, 0x301, 'b', 0x302}, [][]rune{{'a'}, {'b', 0x302}}},
		{[]rune{'a', 7, 'b', -1, 'c', 0x301}, [][]rune{{'a'}, {'b'}, {'c', 0x301}}},
		{[]rune{0x3042, 0x301, 0x302, 0x303, 0x200b, 0xfe0f}, [][]rune{{0x3042, 0x301, 0x302, 0x303, 0x200b, 0xfe0f}}},
		{[]rune{0x301, 'a', 0x301, 0x302, 0x3042, 7, 0x301, 'b'}, [][]rune{{'a', 0x301, 0x302}, {0x3042}, {'b'}}},
	} {
		if c := width.Clusters(x.l...); !sameClusters(c, x.want) {
			t.Errorf("%x: %x, not %x", x.l, c, x.want)
		}
	}
}

// P3.2
func TestFit(t *testing.T) {
	for _, x := range []struct {
		n    int
		l    []rune
		want int
	}{
		{-1, nil, 0},
		{0, nil, 0},
		{7, nil, 0},
		{-1, []rune{'a'}, 0},
		{-1, []rune{0x301}, 0},
		{-1, []rune{7, 0x301}, 0},
		{math.MinInt, []rune{0x301, 7, 'a'}, 0},
		{math.MinInt, []rune{0x3042}, 0},
		{0, []rune{'a'}, 0},
		{0, []rune{0x301}, 1},
		{0, []rune{7}, 1},
		{0, []rune{0x301, 7, -1, 0xd800, 'a'}, 4},
		{1, []rune{'a'}, 1},
		{1, []rune{'a', 'b'}, 1},
		{1, []rune{0x3042}, 0},
		{1, []rune{0x3042, 'a'}, 0},
		{1, []rune{7, 0x301, 0x3042, 'a'}, 2},
		{2, []rune{'a', 0x3042, 'b'}, 1},
		{2, []rune{'a', 0x301, 7, 0x3042, 'b'}, 3},
		{2, []rune{0x3042}, 1},
		{3, []rune{'a', 0x3042, 0x301, 'b'}, 3},
		{3, []rune{'a', 0x3042, 0x301, 7, 0x302, 'b', 0x303}, 5},
		{3, []rune{'a', 0x3042, 0x301, 7}, 4},
		{4, []rune{'a', 0x3042, 'b'}, 3},
		{5, []rune{'a', 0x3042, 'b'}, 3},
		{9, []rune{'a'}, 1},
		{math.MaxInt, []rune{'a', 0x3042, 0x301, 7}, 4},
	} {
		if k := width.Fit(x.n, x.l...); k != x.want {
			t.Errorf("%d, %x: %d, not %d", x.n, x.l, k, x.want)
		}
	}
}

// P3.1 to P3.3, of all short lists.
func TestAllShortLists(t *testing.T) {
	each(5, func(l []rune) { check(t, l) })
}

// P3.2, P3.3: of long lists too, with marks without end.
func TestLongLists(t *testing.T) {
	const n = 1 << 16
	letters := slices.Repeat([]rune{'a', 0x3042}, n)
	if width.Total(letters...) != 3*n || len(width.Clusters(letters...)) != 2*n || width.Fit(3*n-1, letters...) != 2*n-1 {
		t.Error("letters")
	}
	marks := append([]rune{7, 0x301, 'a'}, slices.Repeat([]rune{0x301}, n)...)
	if c := width.Clusters(marks...); width.Total(marks...) != 1 || len(c) != 1 || len(c[0]) != n+1 || width.Fit(0, marks...) != 2 || width.Fit(1, marks...) != n+3 {
		t.Error("marks")
	}
}

// What is handed in is left alone, its spare room too, and answers share nothing with it or with one another.
func TestMemory(t *testing.T) {
	whole := []rune{'a', 0x301, 0x3042, 7, 'b', 0x302, 'x', 'y', 'z'}
	before := slices.Clone(whole)
	l := whole[:6]
	width.Total(l...)
	width.Fit(3, l...)
	c := width.Clusters(l...)
	again := width.Clusters(l...)
	if !slices.Equal(whole, before) {
		t.Fatalf("handed in: %x, now %x", before, whole)
	}
	want := clustersOf(l)
	for i := range c {
		for j := range c[i] {
			c[i][j] = 'q'
		}
		for k := range min(3, cap(c[i])-len(c[i])) {
			c[i][:cap(c[i])][len(c[i])+k] = 'q'
		}
		c[i] = append(c[i], 'q', 'q')
		for j := i + 1; j < len(c); j++ {
			if !slices.Equal(c[j], want[j]) {
				t.Errorf("cluster %d changed with cluster %d", j, i)
			}
		}
	}
	if !slices.Equal(whole, before) || !sameClusters(again, want) {
		t.Errorf("an answer's change is seen: %x, %x", whole, again)
	}
	for i := range whole {
		whole[i] = 'w'
	}
	if !sameClusters(again, want) {
		t.Error("an answer changed with what was handed in")
	}
}

// P2
func TestSameAgain(t *testing.T) {
	type answers struct{ of, total, fit int }
	tell := func(l []rune) (answers, [][]rune) {
		return answers{width.Of(l[0]), width.Total(l...), width.Fit(2, l...)}, width.Clusters(l...)
	}
	l := []rune{'a', 0x301, 0x3042, 7, 0x301, 'b'}
	a, c := tell(l)
	for range 100 {
		width.Fit(1, 0x3042, 'x')
		width.Clusters('x', 0x302)
		if b, d := tell(l); a != b || !sameClusters(c, d) {
			t.Fatalf("%v %x, then %v %x", a, c, b, d)
		}
	}
}

func FuzzWidth(f *testing.F) {
	f.Add("a\u0301\u3042", 2)
	f.Add("\u0301\x07\u0301a", 0)
	f.Fuzz(func(t *testing.T, text string, n int) {
		l := []rune(text)
		check(t, l)
		if k := width.Fit(n, l...); k != fitOf(n, l) {
			t.Errorf("%x: %d of them fit %d", l, k, n)
		}
	})
}
