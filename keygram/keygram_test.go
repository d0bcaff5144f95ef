package keygram_test

import (
	"bytes"
	"math"
	"math/rand"
	"slices"
	"testing"

	"prolepsis/api"
	"prolepsis/keygram"
)

// tells: the gram's bytes are just these, and tell it.
func tells(t *testing.T, g Gram, want []byte) {
	t.Helper()
	b, e := keygram.Bytes(g)
	if e != api.OK || !bytes.Equal(b, want) || keygram.Check(g) != api.OK {
		t.Errorf("%v: %v, %d, checked %d, not %v", g, b, e, keygram.Check(g), want)
	}
	if h, e := keygram.Parse(want); e != api.OK || !alike(h, g) {
		t.Errorf("%v: parsed as %v, %d, not %v", want, h, e, g)
	}
}

// untold: nothing is told of the gram but this error; it has no last key, nor any other.
func untold(t *testing.T, g Gram, e api.Errno) {
	t.Helper()
	if b, got := keygram.Bytes(g); got != e || len(b) > 0 || keygram.Check(g) != e {
		t.Errorf("%v: %v, %d, checked %d, not %d", g, b, got, keygram.Check(g), e)
	}
	if keygram.Last(g) != 0 {
		t.Errorf("%v: the last is %d", g, keygram.Last(g))
	}
	for _, n := range near(g) {
		if k, ok := keygram.Key(g, n); ok || len(k) > 0 {
			t.Errorf("%v: the key %d is %q, %v", g, n, k, ok)
		}
	}
}

// P14.1, P14.3: by hand, the chapter's example first.
func TestBytesByHand(t *testing.T) {
	tells(t, made(2, 300, 1, 2, 5, keys("a")...), []byte{'K', 2, 172, 2, 1, 2, 5, 1, 1, 97})
	// Each number has its own place.
	tells(t, made(9, 8, 7, 6, 5), []byte{'K', 9, 8, 7, 6, 5, 0})
	tells(t, made(300, 128, 129, 512, 16384, keys("\x1b[A")...), []byte{'K', 172, 2, 128, 1, 129, 1, 128, 4, 128, 128, 1, 1, 3, 27, 91, 65})
	greatest := slices.Concat(bytes.Repeat([]byte{255}, 9), []byte{1})
	tells(t, made(top, top, 512, 512, top, keys("z")...), slices.Concat([]byte{'K'}, greatest, greatest, []byte{128, 4, 128, 4}, greatest, []byte{1, 1, 'z'}))
	// Several keys, in their order, of any bytes.
	tells(t, made(0, 0, 1, 1, 1, keys("b", "a", "b", "\x00\xff\x80", "K\x01\x00ijkl\xfe")...),
		[]byte{'K', 0, 0, 1, 1, 1, 5, 1, 'b', 1, 'a', 1, 'b', 3, 0, 255, 128, 8, 'K', 1, 0, 'i', 'j', 'k', 'l', 254})
}

// P14.1: rows and columns.
func TestSides(t *testing.T) {
	right := []int{1, 2, 127, 128, 511, 512}
	wrong := []int{0, 513, 514, 1024, 1 << 32, 1<<32 + 1, -1, -512, math.MinInt, math.MinInt + 1, math.MaxInt}
	for _, rows := range right {
		for _, cols := range right {
			tells(t, made(1, 2, rows, cols, 3, keys("x")...), append(behindK(1, 2, uint64(rows), uint64(cols), 3, 1), 1, 'x'))
		}
		for _, n := range wrong {
			untold(t, made(1, 2, rows, n, 3, keys("x")...), api.ErrSize)
			untold(t, made(1, 2, n, rows, 3, keys("x")...), api.ErrSize)
		}
	}
	for _, rows := range wrong {
		for _, cols := range wrong {
			untold(t, made(1, 2, rows, cols, 3), api.ErrSize)
		}
	}
	untold(t, Gram{}, api.ErrSize)
}

// P14.1: whatever the ack and the stamp.
func TestAckAndStamp(t *testing.T) {
	for _, ack := range edges() {
		for _, stamp := range edges() {
			tells(t, made(ack, stamp, 3, 4, 5, keys("x")...), append(behindK(ack, stamp, 3, 4, 5, 1), 1, 'x'))
			untold(t, made(ack, stamp, 3, 4, 0, keys("x")...), api.ErrRange)
		}
	}
}

// P14.1: First of 0, of 1, of others, with keys and without, up to the greatest number and beyond.
func TestFirst(t *testing.T) {
	for _, first := range edges() {
		for _, n := range []int{0, 1, 2, 3, 63, 64} {
			g := keyed(first, many(n)...)
			switch {
			case first == 0, n > 0 && first > top-uint64(n-1):
				untold(t, g, api.ErrRange)
			default:
				tells(t, g, whole(g))
			}
		}
	}
	for _, n := range []int{1, 2, 63, 64} {
		just := keyed(top-uint64(n-1), many(n)...)
		tells(t, just, whole(just))
		if l := keygram.Last(just); l != top {
			t.Errorf("the last is %d", l)
		}
		for over := range uint64(n - 1) {
			just.First = top - over
			untold(t, just, api.ErrRange)
		}
	}
}

// P14.1: how many keys there are.
func TestManyKeys(t *testing.T) {
	tells(t, keyed(5), behindK(2, 300, 24, 80, 5, 0))
	tells(t, keyed(5, [][]byte{}...), behindK(2, 300, 24, 80, 5, 0))
	tells(t, keyed(5, make([][]byte, 0, 7)...), behindK(2, 300, 24, 80, 5, 0))
	for n := range 65 {
		g := keyed(5, many(n)...)
		tells(t, g, whole(g))
	}
	for _, n := range []int{65, 66, 128, 256, 320, 65536} {
		untold(t, keyed(5, slices.Repeat(keys("x"), n)...), api.ErrMany)
	}
}

// P14.1: how many bytes a key has, whichever of several it is.
func TestKeysLengths(t *testing.T) {
	for _, n := range []int{1, 2, 5, 64} {
		for at := range n {
			g := keyed(7, many(n)...)
			for size := 1; size <= 8; size++ {
				g.Keys[at] = bytes.Repeat([]byte{255}, size)
				tells(t, g, whole(g))
			}
			for _, k := range [][]byte{nil, {}, make([]byte, 0, 8), []byte("some")[:0]} {
				g.Keys[at] = k
				untold(t, g, api.ErrForm)
			}
			for _, size := range []int{9, 10, 16, 128, 256, 257, 1 << 16} {
				g.Keys[at] = make([]byte, size)
				untold(t, g, api.ErrLong)
			}
		}
	}
	// Of two of them the first one is told.
	untold(t, keyed(7, keys("a", "", "123456789")...), api.ErrForm)
	untold(t, keyed(7, keys("a", "123456789", "")...), api.ErrLong)
	untold(t, keyed(7, keys("", "123456789")...), api.ErrForm)
	untold(t, keyed(7, keys("123456789", "", "a", "")...), api.ErrLong)
}

// spoil is a change that makes a right gram a wrong one, and the error that says why.
type spoil struct {
	change func(*Gram)
	e      api.Errno
}

// spoils: in the order in which their errors are told.
func spoils() []spoil {
	return []spoil{
		{func(g *Gram) { g.Rows = 0 }, api.ErrSize},
		{func(g *Gram) { g.Cols = 513 }, api.ErrSize},
		{func(g *Gram) { g.First = 0 }, api.ErrRange},
		{func(g *Gram) { g.Keys = append(g.Keys, many(64)...) }, api.ErrMany},
		{func(g *Gram) { g.Keys[0] = nil }, api.ErrForm},
		{func(g *Gram) { g.Keys[1] = make([]byte, 9) }, api.ErrLong},
		{func(g *Gram) { g.Keys[2] = []byte{} }, api.ErrForm},
		{func(g *Gram) { g.First = top - 1 }, api.ErrRange},
	}
}

// P14.1: each error alone, and of any of them together the first one.
func TestOrderOfErrors(t *testing.T) {
	l := spoils()
	for set := 1; set < 1<<len(l); set++ {
		g := keyed(1, keys("a", "b", "c")...)
		var e api.Errno
		// From the last one on, so that each still finds what it spoils.
		for i := len(l) - 1; i >= 0; i-- {
			if set>>i&1 == 1 {
				l[i].change(&g)
				e = l[i].e
			}
		}
		untold(t, g, e)
		agreesTold(t, g)
	}
}

// P14.1: the last one's number, and each key by its number.
func TestLastAndKey(t *testing.T) {
	for _, first := range []uint64{1, 2, 5, 128, 1 << 32, 1 << 63, top - 63} {
		for n := range 65 {
			g := keyed(first, many(n)...)
			if l := keygram.Last(g); l != first-1+uint64(n) {
				t.Errorf("%d keys from %d on: the last is %d", n, first, l)
			}
			for i, k := range g.Keys {
				if l, ok := keygram.Key(g, first+uint64(i)); !ok || !bytes.Equal(l, k) {
					t.Errorf("key %d from %d on: %q, %v, not %q", i, first, l, ok, k)
				}
			}
			for _, other := range []uint64{0, first - 1, first + uint64(n), first + uint64(n) + 1, first + 1<<32, first + 1<<63} {
				if l, ok := keygram.Key(g, other); ok || len(l) > 0 {
					t.Errorf("%d keys from %d on: the key %d is %q, %v", n, first, other, l, ok)
				}
			}
			if l, ok := keygram.Key(g, top); ok != (n == 64 && first == top-63) {
				t.Errorf("%d keys from %d on: the key %d is %q, %v", n, first, uint64(top), l, ok)
			}
		}
	}
	for _, first := range []uint64{1, top} {
		if l := keygram.Last(keyed(first)); l != first-1 {
			t.Errorf("no keys from %d on: the last is %d", first, l)
		}
		for _, n := range edges() {
			if k, ok := keygram.Key(keyed(first), n); ok || len(k) > 0 {
				t.Errorf("no keys from %d on: the key %d is %q, %v", first, n, k, ok)
			}
		}
	}
	g := keyed(5, keys("a", "\x1b[C")...)
	if k, ok := keygram.Key(g, 6); !ok || string(k) != "\x1b[C" || keygram.Last(g) != 6 {
		t.Error(k, ok, keygram.Last(g))
	}
}

// P14.1, P14.3: grams by chance, and what a change or two makes of them.
func TestBytesByChance(t *testing.T) {
	chance := rand.New(rand.NewSource(14))
	odd := []int{math.MinInt, -1, 0, 1, 511, 512, 513, math.MaxInt}
	for range 4000 {
		g := anyGram(chance)
		if _, e := told(g); e != api.OK {
			t.Fatal(g, e)
		}
		agreesTold(t, g)
		for range 1 + chance.Intn(3) {
			switch n := len(g.Keys); chance.Intn(6) {
			case 0:
				g.First = anyNumber(chance)
			case 1:
				*[]*int{&g.Rows, &g.Cols}[chance.Intn(2)] = odd[chance.Intn(len(odd))]
			case 2:
				g.First = top - uint64(chance.Intn(n+2))
			case 3:
				g.Keys = append(g.Keys, many(64-min(n, 64)+chance.Intn(2))...)
			case 4:
				g.Keys = append(g.Keys, anyKey(chance, chance.Intn(10)))
			case 5:
				if n > 0 {
					g.Keys[chance.Intn(n)] = anyKey(chance, chance.Intn(10))
				}
			}
			agreesTold(t, g)
		}
	}
}

// P14.1: grams that differ in one thing alone, or in nothing, be they right or not.
func TestSame(t *testing.T) {
	for _, g := range []Gram{
		made(9, 8, 7, 6, 5, keys("a", "bc", "d")...),
		made(0, 0, 0, 0, 0, keys("", "123456789", "")...),
		made(top, top, math.MinInt, math.MaxInt, top, many(70)...),
	} {
		if !keygram.Same(g, g) || !keygram.Same(g, clone(g)) || !keygram.Same(clone(g), g) {
			t.Errorf("%v isn't the same", g)
		}
		n := len(g.Keys)
		for i, change := range []func(*Gram){
			func(h *Gram) { h.Ack++ },
			func(h *Gram) { h.Ack ^= 1 << 63 },
			func(h *Gram) { h.Stamp++ },
			func(h *Gram) { h.Stamp ^= 1 << 32 },
			func(h *Gram) { h.Rows++ },
			func(h *Gram) { h.Rows ^= 1 << 40 },
			func(h *Gram) { h.Cols-- },
			func(h *Gram) { h.Cols ^= 1 << 33 },
			func(h *Gram) { h.First++ },
			func(h *Gram) { h.First ^= 1 << 63 },
			func(h *Gram) { h.Keys[1][0]++ },
			func(h *Gram) { h.Keys[1][len(h.Keys[1])-1] ^= 128 },
			func(h *Gram) { h.Keys[0] = append(h.Keys[0], 0) },
			func(h *Gram) { h.Keys[n-1] = append(h.Keys[n-1], 'e') },
			func(h *Gram) { h.Keys[1] = h.Keys[1][1:] },
			func(h *Gram) { h.Keys[1] = nil },
			func(h *Gram) { h.Keys = h.Keys[1:] },
			func(h *Gram) { h.Keys = h.Keys[:n-1] },
			func(h *Gram) { h.Keys = nil },
			func(h *Gram) { h.Keys = append(h.Keys, nil) },
			func(h *Gram) { h.Keys = append(h.Keys, []byte("e")) },
			func(h *Gram) { h.Keys[0], h.Keys[1] = h.Keys[1], h.Keys[0] },
			func(h *Gram) { h.Keys[0], h.Keys[1] = append(h.Keys[0], h.Keys[1][0]), h.Keys[1][1:] },
		} {
			h := clone(g)
			if change(&h); keygram.Same(g, h) || keygram.Same(h, g) {
				t.Errorf("change %d of %v is the same", i, g)
			}
		}
	}
	if !keygram.Same(Gram{}, Gram{}) {
		t.Error("the zero gram isn't the same")
	}
	// What two fields have in turn isn't the same.
	g := made(9, 8, 7, 6, 5)
	for _, h := range []Gram{made(8, 9, 7, 6, 5), made(9, 8, 6, 7, 5), made(5, 8, 7, 6, 9), made(9, 5, 7, 6, 8)} {
		if keygram.Same(g, h) || keygram.Same(h, g) {
			t.Errorf("%v is the same as %v", g, h)
		}
	}
}

// P14.1: nil and empty lists are one.
func TestSameOfEmptyLists(t *testing.T) {
	lists := [][][]byte{nil, {}, make([][]byte, 0, 3), many(3)[:0]}
	for _, l := range lists {
		for _, m := range lists {
			if !keygram.Same(keyed(1, l...), keyed(1, m...)) {
				t.Error("a nil list of keys isn't the same as an empty one")
			}
		}
	}
	empty := [][]byte{nil, {}, make([]byte, 0, 8), []byte("some")[:0]}
	for _, k := range empty {
		for _, l := range empty {
			if !keygram.Same(keyed(1, k), keyed(1, l)) || !keygram.Same(keyed(1, []byte("a"), k), keyed(1, []byte("a"), l)) {
				t.Error("a nil key isn't the same as an empty one")
			}
		}
		// But a key without bytes isn't none.
		if keygram.Same(keyed(1, k), keyed(1)) || keygram.Same(keyed(1), keyed(1, k)) {
			t.Error("a key without bytes is the same as none")
		}
	}
}

// What is handed in stays as it is, its spare room too; what is told is new.
func TestBytesAreNew(t *testing.T) {
	room := []byte("abcdefgh")
	list := [][]byte{room[:3], room[3:4], room[6:], []byte("spare")}
	g := keyed(5, list[:3]...)
	want := whole(g)
	first, e := keygram.Bytes(g)
	second, _ := keygram.Bytes(g)
	if e != api.OK || !bytes.Equal(first, want) {
		t.Fatal(first, e)
	}
	for i := range first[:cap(first)] {
		first[:cap(first)][i] = 99
	}
	if !bytes.Equal(second, want) {
		t.Error("what is told is shared")
	}
	for n, k := range []string{"abc", "d", "gh"} {
		l, ok := keygram.Key(g, 5+uint64(n))
		if !ok || string(l) != k {
			t.Fatal(l, ok)
		}
		again, _ := keygram.Key(g, 5+uint64(n))
		for i := range l[:cap(l)] {
			l[:cap(l)][i] = 99
		}
		if string(again) != k {
			t.Error("a key that is told is shared")
		}
	}
	if string(room) != "abcdefgh" || !alike(keyed(5, list...), keyed(5, keys("abc", "d", "gh", "spare")...)) {
		t.Error("the keys that were handed in have changed")
	}
	k, _ := keygram.Key(g, 5)
	clear(room)
	if !bytes.Equal(second, want) || string(k) != "abc" {
		t.Error("the keys that were handed in are kept")
	}
}

// P2: the same grams have the same bytes, whatever was asked in between.
func TestBytesAgain(t *testing.T) {
	chance := rand.New(rand.NewSource(2))
	for range 500 {
		g := anyGram(chance)
		b, e := keygram.Bytes(g)
		keygram.Bytes(Gram{})
		keygram.Check(anyGram(chance))
		keygram.Key(g, g.First)
		keygram.Parse(b[:len(b)/2])
		again, x := keygram.Bytes(clone(g))
		if e != x || !bytes.Equal(b, again) || keygram.Check(g) != e || keygram.Last(g) != keygram.Last(clone(g)) {
			t.Fatal(g, b, e, again, x)
		}
	}
}
