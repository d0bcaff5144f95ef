package pen_test

import (
	"math"
	"slices"
	"testing"

	"prolepsis/pen"
)

type Pen = pen.Pen

// adds: the flags that parameters add, and those that they take away.
var (
	adds  = map[int]uint8{1: 1, 2: 2, 4: 4, 5: 8, 7: 16}
	takes = map[int]uint8{22: 3, 24: 4, 25: 8, 27: 16}
)

// paints: from which parameter on eight colors are Fore's, or Back's, and the first of them.
var paints = []struct {
	from int
	back bool
	c    uint8
}{{30, false, 1}, {90, false, 9}, {40, true, 1}, {100, true, 9}}

// doneBy: what the chapter says that one parameter does.
func doneBy(p Pen, n int) Pen {
	if n == 0 {
		return Pen{}
	}
	p.Flags |= adds[n]
	p.Flags -= p.Flags & takes[n]
	if n == 39 {
		p.Fore = 0
	}
	if n == 49 {
		p.Back = 0
	}
	for _, x := range paints {
		for i := range 8 {
			if n != x.from+i {
				continue
			}
			if x.back {
				p.Back = x.c + uint8(i)
			} else {
				p.Fore = x.c + uint8(i)
			}
		}
	}
	return p
}

// turnedBy: what parameters do, one by one.
func turnedBy(p Pen, l []int) Pen {
	if len(l) == 0 {
		return Pen{}
	}
	for _, n := range l {
		p = doneBy(p, n)
	}
	return p
}

// codesOf: a right pen's, by what the parameters do.
func codesOf(p Pen) []int {
	l := []int{0}
	for _, n := range []int{1, 2, 4, 5, 7} {
		if p.Flags&adds[n] != 0 {
			l = append(l, n)
		}
	}
	for n := 30; n < 100 && p.Fore > 0; n++ {
		if doneBy(Pen{}, n) == (Pen{Fore: p.Fore}) {
			l = append(l, n)
		}
	}
	for n := 40; n < 110 && p.Back > 0; n++ {
		if doneBy(Pen{}, n) == (Pen{Back: p.Back}) {
			l = append(l, n)
		}
	}
	return l
}

func rightOne(p Pen) bool { return p.Flags < 32 && p.Fore <= 16 && p.Back <= 16 }

// eachRight goes through all right pens, by their numbers.
func eachRight(f func(p Pen, n int)) {
	for b := range 17 {
		for c := range 17 {
			for flags := range 32 {
				f(Pen{Flags: uint8(flags), Fore: uint8(c), Back: uint8(b)}, flags+32*c+1024*b)
			}
		}
	}
}

// somePens: right ones and others, with every bit of a flag set in one and not in another.
func somePens() []Pen {
	var l []Pen
	for _, flags := range []uint8{0, 1, 2, 3, 4, 8, 16, 28, 31, 32, 0x55, 0xaa, 0xe0, 255} {
		for _, c := range [][2]uint8{{}, {1, 0}, {0, 1}, {8, 9}, {16, 16}, {17, 3}, {5, 17}, {255, 255}} {
			l = append(l, Pen{flags, c[0], c[1]})
		}
	}
	return l
}

// oddNumbers: far from all that do something, or the same as those in their lowest bits.
func oddNumbers() []int {
	l := []int{math.MinInt, math.MinInt + 1, math.MinInt32, math.MaxInt32, math.MaxInt - 1, math.MaxInt, 9999}
	for n := -110; n <= 110; n++ {
		for _, shift := range []int{8, 16, 32} {
			l = append(l, 1<<shift+n, -1<<shift+n)
		}
	}
	return l
}

func TestFlags(t *testing.T) {
	flags := []int{pen.Bold, pen.Faint, pen.Under, pen.Blink, pen.Inverse}
	if want := []int{1, 2, 4, 8, 16}; !slices.Equal(flags, want) {
		t.Errorf("flags %d, not %d", flags, want)
	}
}

// P4.1: by hand, the chapter's example and its edges.
func TestTurnByHand(t *testing.T) {
	full := Pen{31, 16, 16}
	for _, c := range []struct {
		p    Pen
		l    []int
		want Pen
	}{
		{Pen{}, []int{1, 31}, Pen{1, 2, 0}},
		{Pen{1, 2, 3}, []int{0}, Pen{}},
		{Pen{1, 2, 3}, nil, Pen{}},
		{Pen{1, 2, 3}, []int{}, Pen{}},
		{Pen{200, 201, 202}, nil, Pen{}},
		{full, []int{0, 4}, Pen{Flags: 4}},
		{Pen{}, []int{4, 0}, Pen{}},
		{Pen{}, []int{1, 33, 0, 7, 42}, Pen{16, 0, 3}},
		{Pen{}, []int{1, 2, 4, 5, 7}, Pen{Flags: 31}},
		{Pen{}, []int{1, 1, 1}, Pen{Flags: 1}},
		{full, []int{-1}, full},
		{full, []int{3}, full},
		{full, []int{6}, full},
		{full, []int{8}, full},
		{Pen{1, 5, 6}, []int{22}, Pen{0, 5, 6}},
		{Pen{2, 5, 6}, []int{22}, Pen{0, 5, 6}},
		{Pen{3, 5, 6}, []int{22}, Pen{0, 5, 6}},
		{Pen{28, 5, 6}, []int{22}, Pen{28, 5, 6}},
		{full, []int{22}, Pen{28, 16, 16}},
		{full, []int{21, 23, 26, 28, 29}, full},
		{full, []int{24}, Pen{27, 16, 16}},
		{full, []int{25}, Pen{23, 16, 16}},
		{full, []int{27}, Pen{15, 16, 16}},
		{full, []int{22, 24, 25, 27, 39, 49}, Pen{}},
		{Pen{}, []int{22, 24, 25, 27, 39, 49}, Pen{}},
		{full, []int{30}, Pen{31, 1, 16}},
		{full, []int{37}, Pen{31, 8, 16}},
		{full, []int{38}, full},
		{full, []int{39}, Pen{31, 0, 16}},
		{full, []int{40}, Pen{31, 16, 1}},
		{full, []int{47}, Pen{31, 16, 8}},
		{full, []int{48}, full},
		{full, []int{49}, Pen{31, 16, 0}},
		{full, []int{50, 89, 98, 99, 108, 109}, full},
		{Pen{}, []int{89, 90}, Pen{Fore: 9}},
		{Pen{}, []int{97, 98}, Pen{Fore: 16}},
		{Pen{}, []int{99, 100}, Pen{Back: 9}},
		{Pen{}, []int{107, 108}, Pen{Back: 16}},
		{Pen{}, []int{31, 32, 94, 45}, Pen{0, 13, 6}},
		{Pen{}, []int{1, 1000, -7, 4, math.MaxInt, math.MinInt}, Pen{Flags: 5}},
		{Pen{0xe0, 77, 99}, []int{1, 22, 7, 1000}, Pen{0xf0, 77, 99}},
		{Pen{0xff, 77, 99}, []int{22, 39}, Pen{0xfc, 0, 99}},
	} {
		if p := pen.Turn(c.p, c.l...); p != c.want {
			t.Errorf("%v turned by %d: %v, not %v", c.p, c.l, p, c.want)
		}
	}
}

// P4.1: each parameter, from below 0 to above all that do something, over many pens.
func TestTurnByEach(t *testing.T) {
	numbers := oddNumbers()
	for n := -300; n <= 1200; n++ {
		numbers = append(numbers, n)
	}
	for _, p := range somePens() {
		for _, n := range numbers {
			if q, want := pen.Turn(p, n), doneBy(p, n); q != want {
				t.Fatalf("%v turned by %d: %v, not %v", p, n, q, want)
			}
		}
	}
}

// P4.1: two and three parameters, of all that do something and some that don't: one by one, in their order.
func TestTurnInOrder(t *testing.T) {
	kinds := []int{-1, 0, 1, 2, 3, 4, 5, 7, 22, 24, 25, 27, 30, 37, 38, 39, 40, 47, 48, 49, 90, 97, 98, 100, 107, 108}
	for _, p := range []Pen{{}, {31, 16, 16}, {0xaa, 17, 3}} {
		for _, a := range kinds {
			for _, b := range kinds {
				for _, c := range kinds {
					check(t, p, a, b)
					check(t, p, a, b, c)
				}
			}
		}
	}
	long := make([]int, 100000)
	for i := range long {
		long[i] = i % 117
	}
	check(t, Pen{}, long...)
	check(t, Pen{255, 255, 255}, long...)
}

func check(t *testing.T, p Pen, l ...int) {
	t.Helper()
	if q, want := pen.Turn(p, l...), turnedBy(p, l); q != want {
		t.Fatalf("%v turned by %d of them: %v, not %v", p, len(l), q, want)
	}
}

// P4.1 and P4.2: Right, and Number with it, of each pen there can be.
func TestEachPen(t *testing.T) {
	for x := range 1 << 24 {
		p := Pen{uint8(x), uint8(x >> 8), uint8(x >> 16)}
		number := -1
		if rightOne(p) {
			number = int(p.Flags) + 32*int(p.Fore) + 1024*int(p.Back)
		}
		if ok := pen.Right(p); ok != (number >= 0) {
			t.Fatalf("%v: right %v", p, ok)
		}
		if n := pen.Number(p); n != number {
			t.Fatalf("%v: number %d, not %d", p, n, number)
		}
	}
}

func TestRightByHand(t *testing.T) {
	for _, p := range []Pen{{}, {Flags: 31}, {Fore: 16}, {Back: 16}, {31, 16, 16}, {1, 2, 3}} {
		if !pen.Right(p) {
			t.Errorf("%v: not right", p)
		}
	}
	for _, p := range []Pen{{Flags: 32}, {Fore: 17}, {Back: 17}, {32, 17, 17}, {Flags: 255}, {Fore: 255}, {Back: 255}, {33, 1, 1}} {
		if pen.Right(p) {
			t.Errorf("%v: right", p)
		}
	}
}

// P4.1: With, of every pen's flags by every flag, and some by hand.
func TestWith(t *testing.T) {
	for x := range 1 << 16 {
		p, flag := Pen{uint8(x), 9, 200}, uint8(x>>8)
		on, off := p, p
		for bit := range 8 {
			if flag>>bit&1 == 0 {
				continue
			}
			if p.Flags>>bit&1 == 0 {
				on.Flags += 1 << bit
			} else {
				off.Flags -= 1 << bit
			}
		}
		if q := pen.With(p, flag, true); q != on {
			t.Fatalf("%v with %d: %v, not %v", p, flag, q, on)
		}
		if q := pen.With(p, flag, false); q != off {
			t.Fatalf("%v without %d: %v, not %v", p, flag, q, off)
		}
	}
	for _, c := range []struct {
		p    Pen
		flag uint8
		on   bool
		want Pen
	}{
		{Pen{5, 2, 3}, 0, true, Pen{5, 2, 3}},
		{Pen{5, 2, 3}, 0, false, Pen{5, 2, 3}},
		{Pen{5, 2, 3}, pen.Bold, true, Pen{5, 2, 3}},
		{Pen{5, 2, 3}, pen.Bold, false, Pen{4, 2, 3}},
		{Pen{5, 2, 3}, pen.Faint, true, Pen{7, 2, 3}},
		{Pen{5, 2, 3}, pen.Faint, false, Pen{5, 2, 3}},
		{Pen{5, 2, 3}, pen.Under | pen.Inverse, true, Pen{21, 2, 3}},
		{Pen{5, 2, 3}, pen.Under | pen.Inverse, false, Pen{1, 2, 3}},
		{Pen{}, 32, true, Pen{Flags: 32}},
		{Pen{Flags: 32}, 32, false, Pen{}},
		{Pen{Fore: 17}, 255, true, Pen{255, 17, 0}},
		{Pen{255, 17, 18}, 255, false, Pen{0, 17, 18}},
		{Pen{0xe0, 255, 255}, 0xc1, true, Pen{0xe1, 255, 255}},
	} {
		if q := pen.With(c.p, c.flag, c.on); q != c.want {
			t.Errorf("%v with %d, %v: %v, not %v", c.p, c.flag, c.on, q, c.want)
		}
	}
}

// P4.2: every number from below the first one to beyond the greatest, and odd ones.
func TestOf(t *testing.T) {
	pens := map[int]Pen{}
	eachRight(func(p Pen, n int) { pens[n] = p })
	if len(pens) != 32*17*17 {
		t.Fatalf("%d pens", len(pens))
	}
	numbers := oddNumbers()
	for n := -1 << 19; n <= 1<<19; n++ {
		numbers = append(numbers, n)
	}
	for _, n := range numbers {
		want, there := pens[n]
		if p, ok := pen.Of(n); ok != there || p != want {
			t.Fatalf("%d: %v, %v, not %v, %v", n, p, ok, want, there)
		}
	}
}

func TestNumbersByHand(t *testing.T) {
	for _, c := range []struct {
		n  int
		p  Pen
		ok bool
	}{
		{65, Pen{1, 2, 0}, true},
		{0, Pen{}, true},
		{31, Pen{Flags: 31}, true},
		{32, Pen{Fore: 1}, true},
		{16*32 + 31, Pen{31, 16, 0}, true},
		{17 * 32, Pen{}, false},
		{1023, Pen{}, false},
		{1024, Pen{Back: 1}, true},
		{1024 + 17*32, Pen{}, false},
		{16*1024 + 16*32 + 31, Pen{31, 16, 16}, true},
		{16*1024 + 17*32, Pen{}, false},
		{17*1024 - 1, Pen{}, false},
		{17 * 1024, Pen{}, false},
		{17*1024 + 65, Pen{}, false},
		{256 * 1024, Pen{}, false},
		{256*1024 + 65, Pen{}, false},
		{-1, Pen{}, false},
		{-32, Pen{}, false},
		{-1024, Pen{}, false},
		{-256 * 1024, Pen{}, false},
		{math.MinInt, Pen{}, false},
		{math.MaxInt, Pen{}, false},
	} {
		if p, ok := pen.Of(c.n); p != c.p || ok != c.ok {
			t.Errorf("%d: %v, %v, not %v, %v", c.n, p, ok, c.p, c.ok)
		}
		if n := pen.Number(c.p); c.ok && n != c.n {
			t.Errorf("%v: number %d, not %d", c.p, n, c.n)
		}
	}
	for _, p := range []Pen{{Flags: 32}, {Fore: 17}, {Back: 17}, {255, 255, 255}, {32, 1, 1}} {
		if n := pen.Number(p); n != -1 {
			t.Errorf("%v: number %d", p, n)
		}
	}
}

// P4.3: by hand.
func TestCodesByHand(t *testing.T) {
	for _, c := range []struct {
		p    Pen
		want []int
	}{
		{Pen{}, []int{0}},
		{Pen{Flags: pen.Bold}, []int{0, 1}},
		{Pen{Flags: pen.Faint}, []int{0, 2}},
		{Pen{Flags: pen.Under}, []int{0, 4}},
		{Pen{Flags: pen.Blink}, []int{0, 5}},
		{Pen{Flags: pen.Inverse}, []int{0, 7}},
		{Pen{Flags: 31}, []int{0, 1, 2, 4, 5, 7}},
		{Pen{Fore: 1}, []int{0, 30}},
		{Pen{Fore: 8}, []int{0, 37}},
		{Pen{Fore: 9}, []int{0, 90}},
		{Pen{Fore: 16}, []int{0, 97}},
		{Pen{Back: 1}, []int{0, 40}},
		{Pen{Back: 8}, []int{0, 47}},
		{Pen{Back: 9}, []int{0, 100}},
		{Pen{Back: 16}, []int{0, 107}},
		{Pen{1, 2, 0}, []int{0, 1, 31}},
		{Pen{31, 16, 9}, []int{0, 1, 2, 4, 5, 7, 97, 100}},
		{Pen{Flags: 32}, nil},
		{Pen{Flags: 33}, nil},
		{Pen{Fore: 17}, nil},
		{Pen{Back: 17}, nil},
		{Pen{255, 255, 255}, nil},
	} {
		if l := pen.Codes(c.p); !slices.Equal(l, c.want) {
			t.Errorf("%v: codes %d, not %d", c.p, l, c.want)
		}
	}
}

// P4.3 and P4.4: every right pen's codes make it, from right pens and others.
func TestCodesMake(t *testing.T) {
	from := somePens()
	eachRight(func(p Pen, n int) {
		l := pen.Codes(p)
		if want := codesOf(p); !slices.Equal(l, want) {
			t.Errorf("%v: codes %d, not %d", p, l, want)
		}
		for _, q := range from {
			if made := pen.Turn(q, l...); made != p {
				t.Errorf("%v turned by %d: %v, not %v", q, l, made, p)
			}
		}
	})
	for _, p := range from {
		if l := pen.Codes(p); !rightOne(p) && len(l) != 0 {
			t.Errorf("%v: codes %d", p, l)
		}
	}
}

// P4.4: a right pen, turned by whatever there is, is right.
func TestTurnedIsRight(t *testing.T) {
	numbers := oddNumbers()
	eachRight(func(p Pen, n int) {
		if !pen.Right(pen.Turn(p)) {
			t.Errorf("%v turned by nothing isn't right", p)
		}
		for k := -2; k <= 120; k++ {
			if q := pen.Turn(p, k); !pen.Right(q) {
				t.Errorf("%v turned by %d: %v", p, k, q)
			}
		}
		k := numbers[n%len(numbers)]
		if q := pen.Turn(p, k, n%110, -n); !pen.Right(q) {
			t.Errorf("%v turned by %d, %d, %d: %v", p, k, n%110, -n, q)
		}
	})
}

// What is handed in stays as it is, its spare room too.
func TestParametersStay(t *testing.T) {
	room := []int{1, 31, 0, 22, 104, 7, 7, 7}
	before := slices.Clone(room)
	for n := range len(room) + 1 {
		pen.Turn(Pen{31, 1, 1}, room[:n]...)
		if !slices.Equal(room, before) {
			t.Fatalf("%d of them: %d, not %d", n, room, before)
		}
	}
}

// An answer is new memory: what is done to one shows in no other.
func TestCodesAreNew(t *testing.T) {
	for _, p := range []Pen{{}, {31, 16, 16}, {1, 2, 0}, {Back: 9}} {
		a, b := pen.Codes(p), pen.Codes(p)
		want := codesOf(p)
		spoil(a)
		if !slices.Equal(b, want) || !slices.Equal(pen.Codes(p), want) {
			t.Errorf("%v: codes share memory", p)
		}
		if q := pen.Turn(Pen{}, pen.Codes(p)...); q != p {
			t.Errorf("%v: turned %v", p, q)
		}
	}
}

// spoil overwrites a list and its spare room.
func spoil(l []int) {
	l = l[:cap(l)]
	for i := range l {
		l[i] = -99
	}
}

// P2: the same calls have the same answers, whatever came between.
func TestSameAnswers(t *testing.T) {
	type answers struct {
		turned, of Pen
		ok, right  bool
		number     int
	}
	ask := func(p Pen, n int) (answers, []int) {
		a := answers{turned: pen.Turn(p, n, 1, n/3), right: pen.Right(p), number: pen.Number(p)}
		a.of, a.ok = pen.Of(n)
		return a, pen.Codes(p)
	}
	pens := somePens()
	var first []answers
	var codes [][]int
	for i, p := range pens {
		a, l := ask(p, i)
		first, codes = append(first, a), append(codes, l)
	}
	for i := len(pens) - 1; i >= 0; i-- {
		if a, l := ask(pens[i], i); a != first[i] || !slices.Equal(l, codes[i]) {
			t.Errorf("%v: %v, %d, not %v, %d", pens[i], a, l, first[i], codes[i])
		}
	}
}

// P1: no call panics, and what the chapter says holds, at all arguments.
func FuzzPen(f *testing.F) {
	f.Add(uint8(0), uint8(0), uint8(0), uint8(0), true, 0, 1, 31)
	f.Add(uint8(31), uint8(16), uint8(16), uint8(255), false, 22, 107, -1)
	f.Add(uint8(32), uint8(17), uint8(17), uint8(32), true, math.MinInt, math.MaxInt, 17*1024)
	f.Fuzz(func(t *testing.T, flags, fore, back, flag uint8, on bool, a, b, c int) {
		p := Pen{flags, fore, back}
		if q, want := pen.Turn(p, a, b, c), turnedBy(p, []int{a, b, c}); q != want {
			t.Errorf("%v turned by %d, %d, %d: %v, not %v", p, a, b, c, q, want)
		}
		if pen.Right(p) != rightOne(p) || pen.Right(p) != (pen.Number(p) >= 0) || pen.Right(p) != (len(pen.Codes(p)) > 0) {
			t.Errorf("%v: right %v, number %d", p, pen.Right(p), pen.Number(p))
		}
		with := Pen{flags | flag, fore, back}
		if !on {
			with.Flags -= flag
		}
		if q := pen.With(p, flag, on); q != with {
			t.Errorf("%v with %d, %v: %v, not %v", p, flag, on, q, with)
		}
		for _, n := range []int{a, b, c} {
			if q, ok := pen.Of(n); ok != (pen.Number(q) == n) {
				t.Errorf("%d: %v, %v", n, q, ok)
			}
		}
	})
}
