package delta_test

import (
	"bytes"
	"math"
	"math/rand"
	"slices"
	"testing"

	"prolepsis/api"
	"prolepsis/delta"
	"prolepsis/diff"
	"prolepsis/num"
)

// refused: Parse of these bytes, and Take of a reader of them, tell this error and the zero difference.
func refused(t *testing.T, b []byte, e api.Errno) {
	t.Helper()
	if d, got := delta.Parse(b); got != e || !zero(d) {
		t.Errorf("%v: %v, %d, not %d", b, d, got, e)
	}
	r := num.New(b)
	if d := delta.Take(r); r.Err() != e || !zero(d) {
		t.Errorf("%v: %v, the reader's %d, not %d", b, d, r.Err(), e)
	}
}

// refusedAll: of each of these numbers' bytes this error.
func refusedAll(t *testing.T, e api.Errno, l ...[]int) {
	t.Helper()
	for _, numbers := range l {
		refused(t, toldBy(numbers...), e)
		agrees(t, toldBy(numbers...))
	}
}

// P12.2: each number, at the edge and just beyond it: beyond it its own error is told, ahead of that of the end.
func TestEachNumbersEdge(t *testing.T) {
	ahead := []int{9, 9, 5, 5, 2, 0, 0, 1, 1, 0, 0, 1, 0}
	edges := map[int]api.Errno{0: 5, 1: 5, 2: 5, 3: 5, 4: 6, 5: 5, 6: 5, 11: 5, 12: 5}
	for i, e := range edges {
		for _, n := range []int{0, 1, 127, 128, 510, 511, 512} {
			if told := append(slices.Clone(ahead[:i]), n); i == 4 && n == 0 {
				agrees(t, toldBy(told...))
			} else {
				refusedAll(t, api.ErrEnd, told)
			}
		}
		for _, n := range []int{513, 514, 1023, 1024, 16927, 0x110000, math.MaxInt32, 1 << 32, 1<<32 + 1, math.MaxInt} {
			refusedAll(t, e, append(slices.Clone(ahead[:i]), n))
			refusedAll(t, e, append(slices.Clone(ahead[:i]), n, 0, 0, 0, 0, 0, 0))
			refusedAll(t, e, append(slices.Clone(ahead[:i]), n, 600, 600))
		}
	}
}

// whole: numbers that tell a difference of two spans.
var whole = []int{3, 300, 2, 299, 2, 0, 298, 1, 2, 1, 65, 'a', 1, 0x301, 2, 0, 2, 1, 0, 3, 1, 1, 0, 'b', 0}

// P12.2: in each number's place bytes that are none, and numbers that are too great for an int.
func TestWhatIsNoNumber(t *testing.T) {
	if _, e := delta.Parse(toldBy(whole...)); e != api.OK {
		t.Fatal(e)
	}
	many := []int{4, 7, 8, 12, 16, 17, 20, 24}
	for i := range whole {
		ahead, behind := toldBy(whole[:i]...), toldBy(whole[i+1:]...)
		refused(t, slices.Concat(ahead, []byte{128, 0}, behind), api.ErrForm)
		refused(t, slices.Concat(ahead, []byte{byte(whole[i]%128 + 128), 128, 0}, behind), api.ErrForm)
		refused(t, slices.Concat(ahead, bytes.Repeat([]byte{255}, 9), []byte{2}, behind), api.ErrForm)
		refused(t, slices.Concat(ahead, bytes.Repeat([]byte{255}, 9)), api.ErrEnd)
		e := api.ErrRange
		if slices.Contains(many, i) {
			e = api.ErrMany
		}
		// The greatest number, one of which an int's lowest bits alone are right, and one that as an int is below 0.
		for _, n := range []uint64{math.MaxUint64, 1<<63 + uint64(whole[i]), math.MaxUint64 - 16927} {
			refused(t, slices.Concat(ahead, num.Bytes(n), behind), e)
		}
	}
}

// P12.2: each number, in its place, from 0 to beyond its edge.
func TestEachNumber(t *testing.T) {
	for i := range whole {
		numbers := slices.Clone(whole)
		for numbers[i] = range 1300 {
			agrees(t, toldBy(numbers...))
		}
	}
}

// wrongRuns: each error that a span's cells can have, by the numbers that tell them.
func wrongRuns() map[api.Errno][][]int {
	return map[api.Errno][][]int{
		api.ErrMany: {
			{513}, {math.MaxInt}, {1, 513}, {1, math.MaxInt}, {2, 500, 0, 0, 13}, {2, 512, 0, 0, 1},
			{1, 1, 1, 0, 'a', 3}, {1, 1, 1, 0, 'a', math.MaxInt},
		},
		api.ErrRange: {
			{1, 1, 3}, {1, 1, 256}, {1, 1, 0, 16928}, {1, 1, 0, 17 * 32}, {1, 1, 0, 17 * 1024},
			{1, 1, 1, 0, 0x110000}, {1, 1, 1, 0, 'a', 1, 0x110000}, {1, 1, 1, 0, 'a', 2, 0x301, 0x110000},
		},
		api.ErrForm: {
			{1, 0}, {2, 500, 0, 0, 0}, {1, 1, 1, 0, 'a', 1, 0}, {1, 1, 1, 0, 'a', 2, 0, 0x301}, {1, 1, 1, 0, 'a', 1, 'b'},
			{1, 1, 1, 0, 7, 0}, {1, 1, 1, 0, 0, 0}, {1, 1, 1, 0, 0xd800, 0}, {1, 1, 1, 0, 0x3042, 0}, {1, 1, 2, 0, 'a', 0},
			{2, 1, 0, 0, 1, 0, 0}, {2, 3, 1, 1, 'a', 1, 0x301, 2, 1, 1, 'a', 1, 0x301},
		},
		api.ErrEnd: {
			{}, {1}, {512}, {1, 512}, {1, 1, 2}, {1, 1, 1, 0, 7}, {1, 1, 1, 0, 'a', 2, 0},
		},
	}
}

// P12.2: each error that a span's cells can have, in the first span and in a later one, where what is wrong by Check is behind it.
func TestWrongRuns(t *testing.T) {
	for e, l := range wrongRuns() {
		for _, x := range l {
			for _, ahead := range [][]int{
				{9, 9, 0, 0, 1, 0, 0},
				{9, 9, 0, 0, 2, 0, 0, 1, 1, 0, 0, 1, 0},
				{9, 9, 0, 0, 3, 0, 0, 1, 1, 0, 0, 1, 0, 2, 1, 0, 0, 1, 0, 1, 2, 0},
				// Sizes, a cursor, rows, columns and cells that Check refuses.
				{0, 9, 0, 0, 1, 0, 0},
				{9, 0, 0, 0, 2, 0, 0, 1, 1, 0, 0, 1, 0},
				{9, 9, 9, 0, 1, 0, 0},
				{9, 9, 0, 512, 1, 0, 0},
				{9, 9, 0, 0, 1, 512, 512},
				{9, 9, 0, 0, 2, 1, 0, 1, 1, 0, 0, 1, 0},
				{9, 9, 0, 0, 2, 1, 9, 1, 1, 0, 0, 0, 0},
				{9, 9, 0, 0, 2, 1, 0, 1, 10, 0, 0, 2, 0},
				{9, 9, 0, 0, 2, 1, 0, 0, 2, 0},
			} {
				numbers := slices.Concat(ahead, x)
				refusedAll(t, e, numbers)
				if e != api.ErrEnd {
					refusedAll(t, e, append(slices.Clone(numbers), 600, 600), append(slices.Clone(numbers), 7, 0, 0))
				}
			}
		}
	}
}

// cells: the numbers of so many right halves, that a span may have.
func cells(n int) []int { return []int{1, n, 0, 0} }

// numbers: one list of all these.
func numbers(l ...any) []int {
	var all []int
	for _, x := range l {
		switch x := x.(type) {
		case int:
			all = append(all, x)
		case []int:
			all = append(all, x...)
		}
	}
	return all
}

// P12.2: behind all, each of Check's errors.
func TestWhatCheckTells(t *testing.T) {
	refusedAll(t, api.ErrSize,
		numbers(0, 0, 0, 0, 0),
		numbers(0, 1, 0, 0, 0),
		numbers(1, 0, 0, 0, 0),
		numbers(0, 512, 0, 0, 1, 0, 0, cells(1)),
	)
	refusedAll(t, api.ErrRange,
		// The cursor.
		numbers(1, 1, 1, 0, 0),
		numbers(1, 1, 0, 1, 0),
		numbers(512, 512, 512, 0, 0),
		numbers(512, 512, 0, 512, 0),
		numbers(3, 9, 3, 0, 0),
		numbers(9, 3, 0, 3, 0),
		// A row or a column that isn't there.
		numbers(3, 9, 0, 0, 1, 3, 0, cells(1)),
		numbers(9, 3, 0, 0, 1, 0, 3, cells(1)),
		numbers(512, 512, 0, 0, 1, 512, 0, cells(1)),
		numbers(512, 512, 0, 0, 1, 0, 512, cells(1)),
		numbers(512, 512, 0, 0, 1, 0, 512, 0),
		numbers(2, 2, 0, 0, 2, 0, 0, cells(1), 2, 0, cells(1)),
		// Cells beyond the columns.
		numbers(3, 9, 0, 0, 1, 0, 0, cells(10)),
		numbers(3, 9, 0, 0, 1, 2, 8, cells(2)),
		numbers(3, 9, 0, 0, 1, 2, 4, 2, 3, 0, 0, 3, 0, 1),
		numbers(3, 512, 0, 0, 1, 0, 1, cells(512)),
		numbers(3, 511, 0, 0, 1, 0, 0, cells(512)),
		numbers(2, 2, 0, 0, 2, 0, 0, cells(2), 1, 0, cells(3)),
	)
	refusedAll(t, api.ErrOrder,
		numbers(3, 9, 0, 0, 2, 1, 0, cells(1), 1, 5, cells(1)),
		numbers(3, 9, 0, 0, 2, 1, 0, cells(1), 0, 5, cells(1)),
		numbers(3, 9, 0, 0, 2, 2, 0, cells(1), 0, 5, cells(1)),
		numbers(3, 9, 0, 0, 3, 0, 0, cells(1), 1, 5, cells(1), 1, 6, cells(1)),
		numbers(3, 9, 0, 0, 3, 0, 0, cells(1), 2, 5, cells(1), 1, 6, cells(1)),
	)
	refusedAll(t, api.ErrForm,
		numbers(3, 9, 0, 0, 1, 0, 0, 0),
		numbers(3, 9, 0, 0, 1, 2, 8, 0),
		numbers(3, 9, 0, 0, 2, 0, 0, cells(1), 2, 8, 0),
	)
	// The row is above, and all that is there is taken.
	for _, l := range [][]int{
		numbers(3, 9, 2, 8, 2, 0, 0, cells(9), 2, 8, cells(1)),
		numbers(3, 9, 0, 0, 3, 0, 3, cells(6), 1, 0, cells(1), 2, 0, cells(1)),
		numbers(512, 512, 511, 511, 1, 511, 511, cells(1)),
		numbers(1, 512, 0, 511, 1, 0, 0, cells(512)),
	} {
		if _, e := delta.Parse(toldBy(l...)); e != api.OK {
			t.Errorf("%v: %d", l, e)
		}
		agrees(t, toldBy(l...))
	}
}

// P12.2: where two of Check's errors would hold, the first one is told.
func TestWhatCheckTellsFirst(t *testing.T) {
	refusedAll(t, api.ErrSize,
		numbers(0, 1, 1, 1, 0),
		numbers(1, 0, 0, 1, 1, 0, 0, 0),
		numbers(1, 0, 0, 0, 2, 1, 1, cells(1), 0, 0, cells(1)),
	)
	refusedAll(t, api.ErrRange,
		numbers(3, 9, 3, 9, 2, 1, 0, cells(1), 1, 0, cells(1)),
		numbers(3, 9, 0, 9, 1, 0, 0, 0),
		// A span ahead of the next one.
		numbers(3, 9, 0, 0, 2, 1, 9, cells(1), 1, 0, cells(1)),
		numbers(3, 9, 0, 0, 2, 1, 8, cells(2), 0, 0, 0),
		// A row or a column that isn't there, ahead of no cells.
		numbers(3, 9, 0, 0, 1, 3, 0, 0),
		numbers(3, 9, 0, 0, 1, 0, 9, 0),
	)
	refusedAll(t, api.ErrOrder,
		numbers(3, 9, 0, 0, 2, 1, 0, cells(1), 1, 9, cells(1)),
		numbers(3, 9, 0, 0, 2, 1, 0, cells(1), 0, 8, cells(2)),
		numbers(3, 9, 0, 0, 2, 1, 0, cells(1), 1, 0, 0),
		numbers(3, 9, 0, 0, 3, 1, 0, cells(1), 1, 0, cells(1), 2, 0, 0),
	)
	refusedAll(t, api.ErrForm,
		numbers(3, 9, 0, 0, 2, 1, 0, 0, 1, 0, cells(1)),
		numbers(3, 9, 0, 0, 2, 1, 0, 0, 3, 0, cells(1)),
	)
}

// P12.2: a number that is wrong is told ahead of what Check tells of those in front of it.
func TestNumbersAheadOfCheck(t *testing.T) {
	refusedAll(t, api.ErrRange,
		numbers(0, 513),
		numbers(0, 1, 513),
		numbers(0, 1, 0, 513),
		numbers(0, 1, 0, 0, 1, 513),
		numbers(0, 1, 0, 0, 1, 0, 513),
		numbers(2, 2, 0, 0, 2, 1, 0, cells(1), 0, 513),
		numbers(2, 2, 0, 0, 2, 1, 0, cells(1), 1, 0, 1, 1, 3),
	)
	refusedAll(t, api.ErrMany,
		numbers(0, 1, 0, 0, 513),
		numbers(1, 1, 1, 1, 513),
		numbers(1, 1, 0, 0, 1, 1, 1, 513),
	)
	refusedAll(t, api.ErrEnd,
		numbers(0),
		numbers(0, 1, 0, 0),
		numbers(1, 1, 1, 1),
		numbers(0, 1, 0, 0, 1),
		numbers(1, 1, 0, 0, 1, 1, 1),
		numbers(3, 9, 0, 0, 2, 1, 0, cells(1), 1, 5),
		numbers(3, 9, 0, 0, 2, 1, 0, 0),
		numbers(3, 9, 0, 0, 512, 1, 0, 0),
	)
	refused(t, append(toldBy(0, 1, 0), 128, 0), api.ErrForm)
}

// P12.2: how many spans: 512 are read, though no row is left for one more.
func TestManySpans(t *testing.T) {
	all := spanEach(512, 512, 0, inTurn(512, two, leftI))
	agrees(t, toldBy(numbersOf(all)...))
	few := numbersOf(spanEach(512, 1, 0, Line{a}))
	b := toldBy(few...)
	agrees(t, b)
	for n := 0; n < len(b); n += 61 {
		refused(t, b[:n], api.ErrEnd)
	}
	// A row less than there are spans; and a span less too, so that its bytes are left.
	few[0] = 511
	refusedAll(t, api.ErrRange, few)
	few[4] = 511
	if d, e := delta.Parse(toldBy(few...)); e != api.ErrForm || !zero(d) {
		t.Error(d, e)
	}
	agrees(t, toldBy(few...))
}

// P12.2: of a reader that has an error, of a nil one, and of one at its end.
func TestTakeOfReaders(t *testing.T) {
	b := toldBy(whole...)
	for _, e := range []api.Errno{api.ErrText, api.ErrDown, -1} {
		r := num.New(b)
		r.Fail(e)
		if d := delta.Take(r); !zero(d) || r.Err() != e || r.At() != 0 {
			t.Error(d, r.Err(), r.At())
		}
	}
	r := num.New(b)
	r.Take(1)
	r.Take(999)
	if d := delta.Take(r); !zero(d) || r.Err() != api.ErrEnd || r.At() != 1 {
		t.Error(d, r.Err(), r.At())
	}
	if d := delta.Take(nil); !zero(d) {
		t.Error(d)
	}
	for _, at := range []int{0, 3} {
		r = num.New(make([]byte, at))
		r.Take(at)
		for range 2 {
			if d := delta.Take(r); !zero(d) || r.Err() != api.ErrEnd || r.At() != at {
				t.Error(d, r.Err(), r.At())
			}
		}
	}
}

// P12.2: behind bytes of another kind, ahead of others, and twice.
func TestTakeGoesOn(t *testing.T) {
	first, second := spanEach(3, 10, 0, allCells()), made(1, 1, 0, 0)
	third := spanEach(512, 512, 511, Line{leftI})
	b := []byte("abc")
	for _, d := range []Diff{first, second, third} {
		b = append(b, toldBy(numbersOf(d)...)...)
	}
	r := num.New(append(b, 200, 1, 'x'))
	r.Take(3)
	at := 3
	for _, want := range []Diff{first, second, third} {
		at += len(toldBy(numbersOf(want)...))
		if d := delta.Take(r); !diff.Same(d, want) || r.Err() != api.OK || r.At() != at {
			t.Fatal(d, r.Err(), r.At())
		}
	}
	if n := r.Number(); n != 200 || r.Done() != api.ErrForm {
		t.Error(n, r.Done())
	}
	if x := r.Take(1); string(x) != "x" || r.Done() != api.OK {
		t.Error(x, r.Done())
	}
	// What is wrong stays the reader's error, and it takes nothing any more.
	for _, x := range []struct {
		b  []byte
		e  api.Errno
		at int
	}{
		{toldBy(1, 1, 0, 0, 513), api.ErrMany, 4},
		{toldBy(1, 1, 0, 0, 1, 0, 0, 0), api.ErrForm, 8},
		{toldBy(0, 1, 0, 0, 0), api.ErrSize, 5},
		{toldBy(1, 1, 1, 0, 0), api.ErrRange, 5},
	} {
		r = num.New(append(x.b, toldBy(whole...)...))
		for range 2 {
			if d := delta.Take(r); !zero(d) || r.Err() != x.e || r.At() != x.at {
				t.Error(x.b, d, r.Err(), r.At())
			}
		}
		if n := r.Number(); n != 0 {
			t.Error(n)
		}
	}
}

// P12.3: bytes cut short at each place, and with more behind.
func TestCutShort(t *testing.T) {
	marked := spanEach(2, 10, 0, allCells())
	for _, d := range []Diff{
		made(1, 1, 0, 0),
		made(512, 512, 511, 511),
		made(1, 1, 0, 0, span(0, 0, Line{a})),
		made(300, 300, 299, 299, span(298, 298, Line{two, leftI}), span(299, 299, Line{rest})),
		made(1, 512, 0, 0, span(0, 0, inTurn(512, a, leftI))),
		marked,
	} {
		b := toldBy(numbersOf(d)...)
		agrees(t, b)
		for n := range b {
			refused(t, b[:n], api.ErrEnd)
		}
		for _, more := range [][]byte{{0}, {1}, {128}, {128, 0}, {255, 255}, b} {
			long := slices.Concat(b, more)
			if x, e := delta.Parse(long); e != api.ErrForm || !zero(x) {
				t.Errorf("%v behind: %v, %d", more, x, e)
			}
			agrees(t, long)
		}
	}
	// Take's error is ahead of bytes that are left.
	for e, l := range map[api.Errno][]int{
		api.ErrSize:  {0, 1, 0, 0, 0},
		api.ErrRange: {1, 1, 1, 0, 0},
		api.ErrMany:  {1, 1, 0, 0, 513},
		api.ErrOrder: {2, 1, 0, 0, 2, 1, 0, 1, 1, 0, 0, 0, 0, 1, 1, 0, 0},
	} {
		refused(t, append(toldBy(l...), 7), e)
	}
}

// P12.3: no bytes.
func TestNoBytes(t *testing.T) {
	for _, b := range [][]byte{nil, {}, []byte("ab")[:0]} {
		refused(t, b, api.ErrEnd)
	}
}

// P12.2 to P12.4: all short rows of some numbers, by themselves and behind a head.
func TestShortBytes(t *testing.T) {
	some := []byte{0, 1, 2, 3, 'a', 128}
	var further func(b []byte, more int)
	further = func(b []byte, more int) {
		agrees(t, b)
		if more == 0 {
			return
		}
		for _, c := range some {
			further(append(slices.Clone(b), c), more-1)
		}
	}
	further(nil, 6)
	further([]byte{1, 2, 0, 1, 1}, 5)
	further([]byte{2, 2, 1, 1, 2, 0, 0, 1, 1, 0, 0}, 6)
	further([]byte{2, 2, 1, 1, 1, 1, 0, 1, 1}, 5)
}

// P12.2 to P12.4: differences' bytes with a few of them, or of their numbers, changed, taken out or put in.
func TestChangedBytes(t *testing.T) {
	chance := rand.New(rand.NewSource(21))
	for range 6000 {
		d := anyDiff(chance)
		numbers := numbersOf(d)
		for range 4 {
			i := chance.Intn(len(numbers))
			odd := []int{0, 1, 2, 3, numbers[i] + 1, max(0, numbers[i]-1), 127, 128, 511, 512, 513, 16927, 0x301, 0x10ffff, 0x110000}
			numbers[i] = odd[chance.Intn(len(odd))]
			agrees(t, toldBy(numbers...))
		}
		b := toldBy(numbersOf(d)...)
		for range 4 {
			i := chance.Intn(len(b))
			switch chance.Intn(3) {
			case 0:
				b[i] = byte(chance.Intn(256))
			case 1:
				b = slices.Insert(b, i, byte(chance.Intn(256)))
			case 2:
				b = append(slices.Delete(b, i, i+1), 0)
			}
			agrees(t, b)
		}
	}
}

// What is handed in stays as it is, its spare room too; what is told is new, and no two of its lists share any.
func TestDifferencesAreNew(t *testing.T) {
	d := made(3, 12, 1, 2, span(0, 0, append(allCells(), a, a)), span(1, 0, times(12, a)), span(2, 3, inTurn(9, a, b)))
	told := toldBy(numbersOf(d)...)
	room := append(slices.Clone(told), "spare room"...)
	before := slices.Clone(room)
	first, e := delta.Parse(room[:len(told)])
	second, _ := delta.Parse(room[:len(told)])
	r := num.New(slices.Concat(told, told))
	third, fourth := delta.Take(r), delta.Take(r)
	if e != api.OK || r.Done() != api.OK {
		t.Fatal(e, r.Done())
	}
	for i, x := range []Diff{first, second, third, fourth} {
		if !diff.Same(x, d) {
			t.Errorf("difference %d shares memory: %v", i, x)
		}
		for j, s := range x.Spans {
			if !slices.Equal(s.Cells, d.Spans[j].Cells) {
				t.Errorf("difference %d, span %d shares memory: %v", i, j, s)
			}
			for k := range s.Cells[:cap(s.Cells)] {
				s.Cells[:cap(s.Cells)][k] = wrongCells()[0]
			}
		}
		for j := range x.Spans[:cap(x.Spans)] {
			x.Spans[:cap(x.Spans)][j] = Span{}
		}
	}
	if !bytes.Equal(room, before) {
		t.Error("the bytes that were handed in have changed")
	}
	// Nor does a later change of them show.
	x, _ := delta.Parse(room[:len(told)])
	clear(room)
	if !diff.Same(x, d) {
		t.Error("the bytes that were handed in are kept")
	}
}

// P2: the same bytes tell the same, whatever was asked in between.
func TestParseAgain(t *testing.T) {
	chance := rand.New(rand.NewSource(3))
	for range 500 {
		b := toldBy(numbersOf(anyDiff(chance))...)
		b[chance.Intn(len(b))] += byte(chance.Intn(2))
		d, e := delta.Parse(b)
		delta.Parse(nil)
		delta.Take(num.New(b[1:]))
		again, f := delta.Parse(slices.Clone(b))
		if e != f || !diff.Same(d, again) {
			t.Fatal(b, d, e, again, f)
		}
	}
}

// P1, P12.2 to P12.4: any bytes.
func FuzzParse(f *testing.F) {
	f.Add(toldBy(whole...))
	f.Add(toldBy(1, 2, 0, 1, 1, 0, 0, 1, 1, 1, 0, 97, 0))
	f.Add(toldBy(512, 512, 511, 511, 1, 511, 511, 1, 1, 2, 16927, 0x3042, 2, 0x301, 0x302))
	f.Add(toldBy(1, 512, 0, 0, 1, 0, 0, 2, 500, 0, 0, 12, 0, 1))
	f.Fuzz(func(t *testing.T, b []byte) { agrees(t, b) })
}
