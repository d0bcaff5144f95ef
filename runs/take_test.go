package runs_test

import (
	"bytes"
	"fmt"
	"math"
	"math/rand"
	"slices"
	"testing"

	"prolepsis/api"
	"prolepsis/cell"
	"prolepsis/num"
	"prolepsis/runs"
)

// refused: Parse of these bytes, and Take of a reader of them, tell this error and nothing.
func refused(t *testing.T, b []byte, e api.Errno) {
	t.Helper()
	if l, got := runs.Parse(b); got != e || len(l) > 0 {
		t.Errorf("%v: %v, %d, not %d", b, l, got, e)
	}
	r := num.New(b)
	if l := runs.Take(r); r.Err() != e || len(l) > 0 {
		t.Errorf("%v: %v, the reader's %d, not %d", b, l, r.Err(), e)
	}
}

// agrees: Parse and Take of any bytes are what the chapter says.
func agrees(t *testing.T, b []byte) {
	t.Helper()
	want, left, e := taken(b)
	r := num.New(b)
	if l := runs.Take(r); r.Err() != e || !slices.Equal(l, want) {
		t.Fatalf("%v: %v, the reader's %d, not %v, %d", b, l, r.Err(), want, e)
	}
	if e == api.OK && r.At() != len(b)-left {
		t.Fatalf("%v: at %d, with %d left", b, r.At(), left)
	}
	want, e = parsed(b)
	l, got := runs.Parse(b)
	if got != e || !slices.Equal(l, want) {
		t.Fatalf("%v: %v, %d, not %v, %d", b, l, got, want, e)
	}
	if e == api.OK {
		if again, e := runs.Bytes(l); e != api.OK || !bytes.Equal(again, b) {
			t.Fatalf("%v: told again as %v, %d", b, again, e)
		}
	}
}

// P10.2: what makes each number wrong, at the edge and just beyond it.
func TestEachError(t *testing.T) {
	const ok = api.OK
	for _, x := range []struct {
		numbers []int
		e       api.Errno
	}{
		// How many runs.
		{[]int{512}, api.ErrEnd},
		{[]int{513}, api.ErrMany},
		{[]int{math.MaxInt}, api.ErrMany},
		// How often.
		{[]int{1, 0}, api.ErrForm},
		{[]int{1, 512}, api.ErrEnd},
		{[]int{1, 512, 0, 0}, ok},
		{[]int{1, 513}, api.ErrMany},
		{[]int{1, math.MaxInt}, api.ErrMany},
		{[]int{2, 500, 0, 0, 12, 0, 1}, ok},
		{[]int{2, 500, 0, 0, 13}, api.ErrMany},
		{[]int{2, 500, 0, 0, 0}, api.ErrForm},
		{[]int{2, 500, 0, 0, math.MaxInt}, api.ErrMany},
		{[]int{3, 500, 0, 0, 11, 0, 1, 1, 0, 0}, ok},
		{[]int{3, 500, 0, 0, 11, 0, 1, 2}, api.ErrMany},
		{[]int{2, 512, 0, 0, 1}, api.ErrMany},
		{[]int{2, 512, 0, 0, 0}, api.ErrForm},
		// W.
		{[]int{1, 1, 2}, api.ErrEnd},
		{[]int{1, 1, 2, 0, 0x3042, 0}, ok},
		{[]int{1, 1, 3}, api.ErrRange},
		{[]int{1, 1, 256}, api.ErrRange},
		{[]int{1, 1, 257}, api.ErrRange},
		// The pen.
		{[]int{1, 1, 0, 16927}, ok},
		{[]int{1, 1, 0, 16928}, api.ErrRange},
		{[]int{1, 1, 0, 16*32 + 31}, ok},
		{[]int{1, 1, 0, 17 * 32}, api.ErrRange},
		{[]int{1, 1, 0, 1023}, api.ErrRange},
		{[]int{1, 1, 0, 1024}, ok},
		{[]int{1, 1, 0, 17 * 1024}, api.ErrRange},
		{[]int{1, 1, 0, 256 * 1024}, api.ErrRange},
		{[]int{1, 1, 0, 1 << 32}, api.ErrRange},
		{[]int{1, 1, 0, math.MaxInt}, api.ErrRange},
		// R.
		{[]int{1, 1, 1, 0, 0x10ffff}, api.ErrEnd},
		{[]int{1, 1, 1, 0, 0x10ffff, 0}, ok},
		{[]int{1, 1, 1, 0, 0x110000}, api.ErrRange},
		{[]int{1, 1, 1, 0, 1<<32 + 'a'}, api.ErrRange},
		// How many marks.
		{[]int{1, 1, 1, 0, 'a', 2, 0x301, 0x302}, ok},
		{[]int{1, 1, 1, 0, 'a', 3}, api.ErrMany},
		{[]int{1, 1, 1, 0, 'a', 256}, api.ErrMany},
		{[]int{1, 1, 1, 0, 'a', math.MaxInt}, api.ErrMany},
		// Marks.
		{[]int{1, 1, 1, 0, 'a', 1, 0x10ffff}, api.ErrForm},
		{[]int{1, 1, 1, 0, 'a', 1, 0x110000}, api.ErrRange},
		{[]int{1, 1, 1, 0, 'a', 1, 1<<32 + 0x301}, api.ErrRange},
		{[]int{1, 1, 1, 0, 'a', 2, 0x301, 0x10ffff}, api.ErrForm},
		{[]int{1, 1, 1, 0, 'a', 2, 0x301, 0x110000}, api.ErrRange},
		{[]int{1, 1, 1, 0, 'a', 2, 0x110000}, api.ErrRange},
		// Behind the run: a mark that is 0, a cell that isn't right, the cell of the run ahead.
		{[]int{1, 1, 1, 0, 'a', 1, 0}, api.ErrForm},
		{[]int{1, 1, 1, 0, 'a', 2, 0, 0}, api.ErrForm},
		{[]int{1, 1, 1, 0, 'a', 2, 0x301, 0}, api.ErrForm},
		{[]int{1, 1, 1, 0, 'a', 2, 0, 0x301}, api.ErrForm},
		{[]int{1, 1, 1, 0, 'a', 1, 'b'}, api.ErrForm},
		{[]int{1, 1, 1, 0, 'a', 2, 0x301, 'b'}, api.ErrForm},
		{[]int{1, 1, 1, 0, 7, 0}, api.ErrForm},
		{[]int{1, 1, 1, 0, 0, 0}, api.ErrForm},
		{[]int{1, 1, 1, 0, 0x301, 0}, api.ErrForm},
		{[]int{1, 1, 1, 0, 0xd800, 0}, api.ErrForm},
		{[]int{1, 1, 1, 0, 0x3042, 0}, api.ErrForm},
		{[]int{1, 1, 2, 0, 'a', 0}, api.ErrForm},
		{[]int{2, 1, 0, 0, 1, 0, 0}, api.ErrForm},
		{[]int{2, 1, 0, 0, 1, 0, 1}, ok},
		{[]int{2, 3, 1, 1, 'a', 1, 0x301, 2, 1, 1, 'a', 1, 0x301}, api.ErrForm},
		{[]int{2, 3, 1, 1, 'a', 1, 0x301, 2, 1, 1, 'a', 1, 0x302}, ok},
		{[]int{3, 1, 0, 0, 1, 0, 1, 1, 0, 0}, ok},
		{[]int{3, 1, 0, 0, 1, 0, 1, 1, 0, 1}, api.ErrForm},
	} {
		b := toldBy(x.numbers...)
		if x.e != api.OK {
			refused(t, b, x.e)
		}
		if l, e := runs.Parse(b); e != x.e {
			t.Errorf("%v: %v, %d, not %d", x.numbers, l, e, x.e)
		}
		agrees(t, b)
	}
}

// P10.2: where two things are wrong, the first one is told: one number by the next, and behind them what is wrong with the run.
func TestTheFirstErrorIsTold(t *testing.T) {
	for _, x := range []struct {
		numbers []int
		e       api.Errno
	}{
		{[]int{513, 0, 3}, api.ErrMany},
		{[]int{1, 0, 3}, api.ErrForm},
		{[]int{1, 513, 3}, api.ErrMany},
		{[]int{1, 513, 0, 17 * 32}, api.ErrMany},
		{[]int{1, 0, 1, 0, 'a', 3}, api.ErrForm},
		{[]int{1, 1, 1, 17 * 32, 0x110000, 3}, api.ErrRange},
		{[]int{1, 1, 1, 17 * 32, 'a', 3}, api.ErrRange},
		{[]int{1, 1, 1, 0, 0x110000, 3}, api.ErrRange},
		{[]int{1, 1, 1, 0, 'a', 3, 0x110000}, api.ErrMany},
		{[]int{1, 1, 1, 0, 'a', 2, 0, 0x110000}, api.ErrRange},
		{[]int{1, 1, 1, 0, 'a', 2, 'b', 0x110000}, api.ErrRange},
		// The run isn't whole, so that what is wrong with it doesn't show yet.
		{[]int{1, 1, 1, 0, 'a', 2, 0}, api.ErrEnd},
		{[]int{1, 1, 1, 0, 'a', 2, 'b'}, api.ErrEnd},
		{[]int{1, 1, 1, 0, 7}, api.ErrEnd},
		{[]int{1, 1, 1, 0, 7, 3}, api.ErrMany},
		{[]int{1, 1, 1, 0, 7, 1, 0x110000}, api.ErrRange},
		{[]int{2, 1, 1, 0, 'a', 0, 1, 1, 0, 'a', 3}, api.ErrMany},
		// Two runs, the one ahead first.
		{[]int{2, 1, 1, 0, 7, 0, 513}, api.ErrForm},
		{[]int{2, 1, 1, 0, 7, 0}, api.ErrForm},
		{[]int{2, 1, 1, 0, 'a', 3, 0}, api.ErrMany},
		{[]int{2, 1, 0, 0, 1, 0, 0, 9, 9}, api.ErrForm},
		{[]int{2, 512, 0, 0, 1, 0, 0}, api.ErrMany},
		{[]int{2, 512, 0, 0, 0, 0, 0}, api.ErrForm},
		{[]int{2, 1, 0, 0, 0, 3}, api.ErrForm},
		// Bytes are left, and something ahead of them is wrong.
		{[]int{513, 7}, api.ErrMany},
		{[]int{1, 1, 3, 7}, api.ErrRange},
	} {
		refused(t, toldBy(x.numbers...), x.e)
		agrees(t, toldBy(x.numbers...))
	}
}

// whole: numbers that tell a cell of W 1 with two marks, behind another one.
var whole = []int{2, 2, 0, 3, 1, 1, 65, 'a', 2, 0x301, 0x302}

// P10.2: in each number's place bytes that are none, or a number that is too great for an int.
func TestWhatIsNoNumber(t *testing.T) {
	if _, e := runs.Parse(toldBy(whole...)); e != api.OK {
		t.Fatal(e)
	}
	many := []int{0, 1, 4, 8}
	for i := range whole {
		ahead, behind := toldBy(whole[:i]...), toldBy(whole[i+1:]...)
		refused(t, slices.Concat(ahead, []byte{128, 0}, behind), api.ErrForm)
		refused(t, slices.Concat(ahead, []byte{byte(whole[i]%128 + 128), 128, 0}, behind), api.ErrForm)
		refused(t, slices.Concat(ahead, bytes.Repeat([]byte{255}, 9), []byte{2}, behind), api.ErrForm)
		refused(t, slices.Concat(ahead, bytes.Repeat([]byte{255}, 9)), api.ErrEnd)
		e := api.ErrRange
		if slices.Contains(many, i) {
			e = api.ErrMany
		}
		// The greatest number, one of which an int's lowest bits alone are right, and one that as an int is below 0.
		for _, n := range []uint64{math.MaxUint64, 1<<63 + uint64(whole[i]), math.MaxUint64 - 16927} {
			refused(t, slices.Concat(ahead, num.Bytes(n), behind), e)
		}
	}
}

// P10.2: each number, in its place, from 0 to beyond its edge.
func TestEachNumber(t *testing.T) {
	for i, n := range []int{600, 600, 600, 20000, 600, 600, 20000, 600, 600, 1200, 1200} {
		numbers := slices.Clone(whole)
		for numbers[i] = range n {
			agrees(t, toldBy(numbers...))
		}
	}
}

// P10.2: each rune there is, and those beyond, as a cell of W 1 and 2 and as a mark: right ones are told, others aren't.
func TestEachRune(t *testing.T) {
	for n := range 0x110010 {
		for _, w := range []int{1, 2} {
			oneRune(t, []int{1, 1, w, 0, n, 0}, Cell{R: rune(n), W: uint8(w)}, n)
		}
		oneRune(t, []int{1, 1, 2, 0, 0x3042, 1, n}, Cell{R: 0x3042, M: [2]rune{rune(n)}, W: 2}, n)
	}
}

// oneRune: the numbers tell the cell with that rune, if it is right and has it.
func oneRune(t *testing.T, numbers []int, c Cell, r int) {
	t.Helper()
	want := api.OK
	switch {
	case r > 0x10ffff:
		want = api.ErrRange
	case r == 0 || !cell.Right(c):
		want = api.ErrForm
	}
	l, e := runs.Parse(toldBy(numbers...))
	if e != want || (e == api.OK) != slices.Equal(l, Line{c}) {
		t.Fatalf("%v: %v, %d, not %d", numbers, l, e, want)
	}
}

// P10.2: of a reader that has an error, of a nil one, and of one at its end.
func TestTakeOfReaders(t *testing.T) {
	b := toldBy(1, 3, 1, 0, 32, 0)
	r := num.New(b)
	r.Fail(api.ErrText)
	if l := runs.Take(r); len(l) > 0 || r.Err() != api.ErrText || r.At() != 0 {
		t.Error(l, r.Err(), r.At())
	}
	r = num.New(b)
	r.Take(1)
	r.Take(9)
	if l := runs.Take(r); len(l) > 0 || r.Err() != api.ErrEnd || r.At() != 1 {
		t.Error(l, r.Err(), r.At())
	}
	if l := runs.Take(nil); len(l) > 0 {
		t.Error(l)
	}
	for _, at := range []int{0, 3} {
		r = num.New(make([]byte, at))
		r.Take(at)
		if l := runs.Take(r); len(l) > 0 || r.Err() != api.ErrEnd || r.At() != at {
			t.Error(l, r.Err(), r.At())
		}
		if l := runs.Take(r); len(l) > 0 || r.Err() != api.ErrEnd {
			t.Error(l, r.Err())
		}
	}
}

// P10.2: behind bytes of another kind, ahead of others, and twice.
func TestTakeGoesOn(t *testing.T) {
	first, second := rightCells(), times(300, Cell{R: 'z', W: 1})
	b := slices.Concat([]byte("abc"), toldBy(numbersOf(first)...), toldBy(numbersOf(second)...), toldBy(0), []byte{200, 1, 'x'})
	r := num.New(b)
	r.Take(3)
	if l := runs.Take(r); !slices.Equal(l, first) || r.Err() != api.OK {
		t.Fatal(l, r.Err())
	}
	if at := 3 + len(toldBy(numbersOf(first)...)); r.At() != at {
		t.Errorf("at %d, not %d", r.At(), at)
	}
	if l := runs.Take(r); !slices.Equal(l, second) || r.Err() != api.OK {
		t.Fatal(l, r.Err())
	}
	if l := runs.Take(r); len(l) > 0 || r.Err() != api.OK {
		t.Fatal(l, r.Err())
	}
	if n := r.Number(); n != 200 || r.Done() != api.ErrForm {
		t.Error(n, r.Done())
	}
	if x := r.Take(1); string(x) != "x" || r.Done() != api.OK {
		t.Error(x, r.Done())
	}
	// A run that tells the cell of the last one that was taken ahead isn't behind it.
	r = num.New(append(toldBy(1, 1, 0, 0), toldBy(1, 512, 0, 0)...))
	if l := runs.Take(r); len(l) != 1 {
		t.Error(l)
	}
	if l := runs.Take(r); len(l) != 512 || r.Done() != api.OK {
		t.Error(l, r.Done())
	}
	// What is wrong stays the reader's error.
	r = num.New(toldBy(1, 1, 3, 0, 0))
	runs.Take(r)
	if l := runs.Take(r); len(l) > 0 || r.Err() != api.ErrRange {
		t.Error(l, r.Err())
	}
}

// P10.3: bytes cut short at each place, and with more behind.
func TestCutShort(t *testing.T) {
	for _, l := range []Line{nil, {{}}, rightCells(), times(512, Cell{R: 'a', W: 1}), inTurn(512, Cell{}, Cell{Pen: dye})} {
		b := toldBy(numbersOf(l)...)
		for n := range b {
			refused(t, b[:n], api.ErrEnd)
		}
		for _, more := range [][]byte{{0}, {1}, {128}, {128, 0}, {255, 255}, b} {
			if k, e := runs.Parse(slices.Concat(b, more)); e != api.ErrForm || len(k) > 0 {
				t.Errorf("%v behind: %v, %d", more, k, e)
			}
		}
	}
}

// P10.2 to P10.4: all short rows of some numbers.
func TestShortBytes(t *testing.T) {
	some := []byte{0, 1, 2, 3, 'a', 128}
	var further func(b []byte)
	further = func(b []byte) {
		agrees(t, b)
		if len(b) == 7 {
			return
		}
		for _, c := range some {
			further(append(slices.Clone(b), c))
		}
	}
	further(nil)
}

// randomLine: a right one or not, of runs as long as it comes.
func randomLine(chance *rand.Rand, some Line) Line {
	var l Line
	for range chance.Intn(12) {
		l = append(l, times(1+chance.Intn(1<<chance.Intn(8)), some[chance.Intn(len(some))])...)
	}
	return l
}

// P10.1 to P10.4: many lines, told and parsed, and their bytes with a few of them changed, taken out or put in.
func TestManyLines(t *testing.T) {
	chance := rand.New(rand.NewSource(10))
	some := rightCells()
	for range 20000 {
		l := randomLine(chance, some)
		if len(l) > 512 {
			if _, e := runs.Bytes(l); e != api.ErrLong {
				t.Fatal(len(l), e)
			}
			l = l[:512]
		}
		tells(t, l, numbersOf(l)...)
		numbers := numbersOf(l)
		for range 4 {
			i := chance.Intn(len(numbers))
			odd := []int{0, 1, 2, 3, numbers[i] + 1, max(0, numbers[i]-1), 127, 128, 512, 513, 16927, 0x301, 0x10ffff, 0x110000}
			numbers[i] = odd[chance.Intn(len(odd))]
			agrees(t, toldBy(numbers...))
		}
		b := toldBy(numbersOf(l)...)
		for range 4 {
			i := chance.Intn(len(b))
			switch chance.Intn(3) {
			case 0:
				b[i] = byte(chance.Intn(256))
			case 1:
				b = slices.Insert(b, i, byte(chance.Intn(256)))
			case 2:
				b = append(slices.Delete(b, i, i+1), 0)
			}
			agrees(t, b)
		}
	}
}

// What is handed in stays as it is, its spare room too; what is told is new.
func TestCellsAreNew(t *testing.T) {
	l := append(rightCells(), times(9, Cell{R: 'a', W: 1})...)
	told := toldBy(numbersOf(l)...)
	room := append(slices.Clone(told), "spare room"...)
	before := slices.Clone(room)
	first, e := runs.Parse(room[:len(told)])
	second, _ := runs.Parse(room[:len(told)])
	r := num.New(slices.Concat(told, told))
	third, fourth := runs.Take(r), runs.Take(r)
	if e != api.OK || r.Done() != api.OK {
		t.Fatal(e, r.Done())
	}
	lists := []Line{first, second, third, fourth}
	for i, k := range lists {
		if !slices.Equal(k, l) {
			t.Errorf("list %d shares memory: %v", i, k)
		}
		for j := range k[:cap(k)] {
			k[:cap(k)][j] = Cell{R: -1}
		}
	}
	if !bytes.Equal(room, before) {
		t.Error("the bytes that were handed in have changed")
	}
	// Nor does a later change of them show.
	k, _ := runs.Parse(room[:len(told)])
	clear(room)
	if !slices.Equal(k, l) {
		t.Error("the bytes that were handed in are kept")
	}
}

// P2: the same calls have the same answers, whatever came between.
func TestSameAnswers(t *testing.T) {
	chance := rand.New(rand.NewSource(2))
	all := append(rightCells(), wrongCells()...)
	ask := func(l Line) string {
		b, e := runs.Bytes(l)
		k, wrong := runs.Parse(b)
		x, none := runs.Parse(append(b, 1))
		return fmt.Sprint(b, e, runs.Count(l), k, wrong, x, none)
	}
	lines := []Line{nil}
	for range 100 {
		lines = append(lines, randomLine(chance, all[:1+chance.Intn(len(all))]))
	}
	var answers []string
	for _, l := range lines {
		answers = append(answers, ask(l))
	}
	for i := len(lines) - 1; i >= 0; i-- {
		if now := ask(lines[i]); now != answers[i] {
			t.Errorf("%v: %s, not %s", lines[i], now, answers[i])
		}
	}
}

// P1: no bytes make a call panic, and each is what the chapter says.
func FuzzParse(f *testing.F) {
	f.Add(toldBy(whole...))
	f.Add(toldBy(numbersOf(rightCells())...))
	f.Add([]byte{})
	f.Fuzz(func(t *testing.T, b []byte) {
		before := bytes.Clone(b)
		agrees(t, b)
		if !bytes.Equal(b, before) {
			t.Error("the bytes that were handed in have changed")
		}
	})
}
