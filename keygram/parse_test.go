package keygram_test

import (
	"bytes"
	"math"
	"math/rand"
	"slices"
	"testing"

	"prolepsis/api"
	"prolepsis/keygram"
)

// refused: Parse of these bytes tells this error, and the zero gram.
func refused(t *testing.T, b []byte, e api.Errno) {
	t.Helper()
	if g, got := keygram.Parse(b); got != e || !zero(g) {
		t.Errorf("%v: %v, %d, not %d", b, g, got, e)
	}
}

// P14.2: by hand.
func TestParseByHand(t *testing.T) {
	for _, x := range []struct {
		b []byte
		g Gram
	}{
		{[]byte{'K', 2, 172, 2, 1, 2, 5, 1, 1, 97}, made(2, 300, 1, 2, 5, keys("a")...)},
		{[]byte{'K', 9, 8, 7, 6, 5, 0}, made(9, 8, 7, 6, 5)},
		{[]byte{'K', 0, 0, 128, 4, 1, 1, 3, 1, 'K', 3, 27, 91, 67, 8, 1, 2, 3, 4, 5, 6, 7, 8}, made(0, 0, 512, 1, 1, keys("K", "\x1b[C", "\x01\x02\x03\x04\x05\x06\x07\x08")...)},
	} {
		if g, e := keygram.Parse(x.b); e != api.OK || !alike(g, x.g) || !keygram.Same(g, x.g) {
			t.Errorf("%v: %v, %d, not %v", x.b, g, e, x.g)
		}
		agreesParsed(t, x.b)
	}
}

// P14.2: bytes that don't begin with K, none among them.
func TestMagic(t *testing.T) {
	right := []byte{2, 172, 2, 1, 2, 5, 1, 1, 97}
	for _, b := range [][]byte{nil, {}, []byte("K")[:0], {0}, []byte("F"), []byte("k"), []byte(" K"), right, make([]byte, 1<<17)} {
		refused(t, b, api.ErrMagic)
	}
	for c := range 256 {
		for _, behind := range [][]byte{nil, {128, 0}, {1}, right, append(slices.Clone(right), 7), {0, 0, 0, 0, 0, 0}} {
			b := append([]byte{byte(c)}, behind...)
			if agreesParsed(t, b); c != 'K' {
				refused(t, b, api.ErrMagic)
			}
		}
	}
	refused(t, []byte("K"), api.ErrEnd)
}

// wrongNumbers: bytes that are no number, and aren't cut short.
func wrongNumbers() [][]byte {
	nine := bytes.Repeat([]byte{255}, 9)
	return [][]byte{
		{128, 0},
		{255, 128, 0},
		{128, 128, 128, 0},
		append(nine[:8:8], 0),
		append(nine[:9:9], 2),
		append(nine[:9:9], 0),
		append(nine[:9:9], 128),
		append(nine[:9:9], 255, 1),
	}
}

// cutNumbers: bytes that end within a number.
func cutNumbers() [][]byte {
	return [][]byte{{}, {128}, {255, 255}, bytes.Repeat([]byte{255}, 9), bytes.Repeat([]byte{128}, 9)}
}

// P14.2: each number cut short, or misformed; the first of them is told.
func TestEachNumber(t *testing.T) {
	// Behind the six ahead of the keys: the first key with its length, and the second one's length.
	numbers := [][]byte{{172, 2}, {200, 1}, {3}, {129, 2}, {128, 128, 1}, {2}, {2, 'a', 'b'}, {8}}
	for i := range numbers {
		ahead := slices.Concat([]byte("K"), slices.Concat(numbers[:i]...))
		for _, wrong := range wrongNumbers() {
			for _, more := range [][]byte{nil, {0}, {1, 1, 1, 1, 1, 1}, {128, 0}, {128}, {255, 255}, bytes.Repeat([]byte{9}, 40)} {
				refused(t, slices.Concat(ahead, wrong, more), api.ErrForm)
				agreesParsed(t, slices.Concat(ahead, wrong, more))
			}
		}
		for _, cut := range cutNumbers() {
			refused(t, slices.Concat(ahead, cut), api.ErrEnd)
			agreesParsed(t, slices.Concat(ahead, cut))
		}
	}
}

// P14.2: any number in each place.
func TestAnyNumber(t *testing.T) {
	for _, n := range append(edges(), 3, 8, 9, 10, 256, 264, 511, 512, 513, 514, 576, 1024, 1<<32+8, 1<<32+64, 1<<32+512) {
		for i, e := range []api.Errno{api.OK, api.OK, api.ErrRange, api.ErrRange, api.OK, api.ErrMany} {
			l := []uint64{7, 6, 5, 4, 3, 1}
			l[i] = n
			b := append(behindK(l...), 1, 'x')
			agreesParsed(t, b)
			if most := []uint64{top, top, 512, 512, top, 64}[i]; n > most {
				refused(t, b, e)
				// Ahead of all that is wrong further on.
				refused(t, append(behindK(l[:i+1]...), 128, 0), e)
				refused(t, append(behindK(l[:i+1]...), 255), e)
				refused(t, behindK(l[:i+1]...), e)
			}
		}
	}
}

// P14.2: a key's length, and the bytes that it has.
func TestKeysTold(t *testing.T) {
	for _, ahead := range [][]string{nil, {"a"}, {"12345678", "\x00", "K"}} {
		for behind := range 3 {
			begun := behindK(2, 300, 24, 80, 5, uint64(len(ahead)+1+behind))
			for _, k := range ahead {
				begun = slices.Concat(begun, []byte{byte(len(k))}, []byte(k))
			}
			more := bytes.Repeat([]byte{1, 'z'}, behind)
			for size := range 9 {
				for there := range 10 {
					b := slices.Concat(begun, []byte{byte(size)}, bytes.Repeat([]byte{1}, there), more)
					if agreesParsed(t, b); size == 0 {
						refused(t, b, api.ErrForm)
					} else if there+len(more) < size {
						refused(t, b, api.ErrEnd)
					}
				}
			}
			for _, size := range []uint64{9, 10, 127, 128, 256, 257, 264, 1 << 32, 1<<32 + 1, 1 << 63, top} {
				refused(t, slices.Concat(begun, toldBy(size)), api.ErrRange)
				refused(t, slices.Concat(begun, toldBy(size), make([]byte, 300)), api.ErrRange)
			}
			refused(t, begun, api.ErrEnd)
			refused(t, append(slices.Clone(begun), 0), api.ErrForm)
		}
	}
}

// P14.2: of two keys that are wrong the first one is told.
func TestFirstWrongKey(t *testing.T) {
	two := behindK(2, 300, 24, 80, 5, 2)
	for _, x := range []struct {
		behind []byte
		e      api.Errno
	}{
		{[]byte{0, 9}, api.ErrForm},
		{[]byte{9, 0}, api.ErrRange},
		{[]byte{0}, api.ErrForm},
		{[]byte{9}, api.ErrRange},
		{[]byte{2, 9}, api.ErrEnd},
		{[]byte{1, 'a', 0}, api.ErrForm},
		{[]byte{1, 'a', 9}, api.ErrRange},
		{[]byte{1, 'a', 2, 'b'}, api.ErrEnd},
		{[]byte{1, 'a', 1}, api.ErrEnd},
		{[]byte{1, 'a'}, api.ErrEnd},
		{[]byte{1, 'a', 128}, api.ErrEnd},
		{[]byte{1, 'a', 128, 0}, api.ErrForm},
		{[]byte{1, 'a', 1, 'b', 0}, api.ErrForm},
		{[]byte{1, 'a', 1, 'b', 9, 9, 9}, api.ErrForm},
	} {
		refused(t, slices.Concat(two, x.behind), x.e)
	}
}

// P14.2: how many keys there are.
func TestManyKeysTold(t *testing.T) {
	for n := range 65 {
		g := keyed(5, many(n)...)
		b := whole(g)
		if h, e := keygram.Parse(b); e != api.OK || !alike(g, h) {
			t.Errorf("%v: %v, %d", b, h, e)
		}
		agreesParsed(t, b)
		refused(t, append(b, 1, 'x'), api.ErrForm)
	}
	for _, n := range []int{65, 66, 100, 127, 128, 320} {
		refused(t, whole(keyed(5, slices.Repeat(keys("x"), n)...)), api.ErrMany)
	}
}

// P14.2: each error of Check that bytes can tell is the last one to be told.
func TestCheckIsTheLast(t *testing.T) {
	full := slices.Repeat(keys("12345678"), 64)
	for _, x := range []struct {
		g Gram
		e api.Errno
	}{
		{made(1, 2, 0, 4, 5, keys("a", "b")...), api.ErrSize},
		{made(1, 2, 4, 0, 5, keys("a", "b")...), api.ErrSize},
		{made(0, 0, 0, 0, 0), api.ErrSize},
		{made(1, 2, 0, 512, 0, keys("a")...), api.ErrSize},
		{made(1, 2, 512, 0, top, keys("a", "b")...), api.ErrSize},
		{made(1, 2, 3, 4, 0), api.ErrRange},
		{made(1, 2, 3, 4, 0, keys("a")...), api.ErrRange},
		{made(1, 2, 3, 4, 0, full...), api.ErrRange},
		{made(1, 2, 3, 4, top, keys("a", "b")...), api.ErrRange},
		{made(top, top, 512, 512, top-62, full...), api.ErrRange},
		{made(top, top, 512, 512, top, full...), api.ErrRange},
	} {
		b := whole(x.g)
		refused(t, b, x.e)
		agreesParsed(t, b)
		for _, more := range [][]byte{{0}, {7}, {128}, {128, 0}, b} {
			refused(t, slices.Concat(b, more), api.ErrForm)
		}
		for cut := 1; cut < len(b); cut++ {
			refused(t, b[:cut], api.ErrEnd)
		}
		// A key that is wrong is told ahead of it.
		if n := len(x.g.Keys); n > 0 {
			one := slices.Clone(b)
			at := len(b) - 1 - len(x.g.Keys[n-1])
			one[at] = 9
			refused(t, one, api.ErrRange)
			one[at] = 0
			refused(t, one, api.ErrForm)
			refused(t, one[:at+1], api.ErrForm)
		}
	}
	// The greatest number that a key may have.
	for _, g := range []Gram{made(1, 2, 3, 4, top), made(1, 2, 3, 4, top, keys("a")...), made(1, 2, 3, 4, top-63, full...)} {
		if h, e := keygram.Parse(whole(g)); e != api.OK || !alike(g, h) {
			t.Errorf("%v: %v, %d", g, h, e)
		}
	}
}

// P14.2: bytes cut short at each place, and with more behind.
func TestCutShort(t *testing.T) {
	for _, g := range []Gram{
		made(2, 300, 1, 2, 5, keys("a")...),
		made(9, 8, 7, 6, 5),
		made(top, top, 512, 512, top-63, many(64)...),
		made(0, 0, 1, 1, 1, keys("\x00\x00\x00", "\x80", "KKKKKKKK")...),
	} {
		b := whole(g)
		agreesParsed(t, b)
		refused(t, b[:0], api.ErrMagic)
		for n := 1; n < len(b); n++ {
			refused(t, b[:n], api.ErrEnd)
		}
		for _, more := range [][]byte{{0}, {1}, {128}, {128, 0}, {'K'}, b, make([]byte, 1<<17)} {
			refused(t, slices.Concat(b, more), api.ErrForm)
		}
	}
}

// P14.2, P14.3: all short rows of some bytes, by themselves and behind beginnings.
func TestShortBytes(t *testing.T) {
	some := []byte{0, 1, 2, 9, 'K', 128}
	var further func(b []byte, more int)
	further = func(b []byte, more int) {
		agreesParsed(t, b)
		if more == 0 {
			return
		}
		for _, c := range some {
			further(append(slices.Clone(b), c), more-1)
		}
	}
	further(nil, 5)
	further([]byte{'K'}, 6)
	further([]byte{'K', 2, 1, 3}, 5)
	further([]byte{'K', 2, 1, 1, 1, 1}, 6)
	further([]byte{'K', 2, 1, 1, 1, 2, 2}, 6)
	further(behindK(2, 1, 1, 512, top), 5)
	further(behindK(2, 1, 1, 512, top-1, 64, 2), 4)
}

// P14.2, P14.3: grams' bytes with a few of them changed, taken out or put in.
func TestChangedBytes(t *testing.T) {
	chance := rand.New(rand.NewSource(41))
	for range 6000 {
		b := whole(anyGram(chance))
		agreesParsed(t, b)
		for range 4 {
			// More often among the numbers ahead of the keys.
			i := chance.Intn(min(len(b), 1<<(2+chance.Intn(8))))
			switch chance.Intn(3) {
			case 0:
				b[i] = byte(chance.Intn(256))
			case 1:
				b = slices.Insert(b, i, byte(chance.Intn(256)))
			case 2:
				b = append(slices.Delete(b, i, i+1), 0)
			}
			agreesParsed(t, b)
		}
	}
}

// What is handed in stays as it is, its spare room too; what is told is new, and no two of its keys share any.
func TestGramsAreNew(t *testing.T) {
	g := keyed(5, many(64)...)
	told := whole(g)
	room := append(slices.Clone(told), "spare room"...)
	before := slices.Clone(room)
	first, e := keygram.Parse(room[:len(told)])
	second, _ := keygram.Parse(room[:len(told)])
	if e != api.OK {
		t.Fatal(e)
	}
	for _, x := range []Gram{first, second} {
		for i, k := range x.Keys {
			if !bytes.Equal(k, g.Keys[i]) {
				t.Errorf("key %d shares memory: %q, not %q", i, k, g.Keys[i])
			}
			_ = append(k, "behind"...)
			for j := range k[:cap(k)] {
				k[:cap(k)][j] = 99
			}
		}
		for i := range x.Keys[:cap(x.Keys)] {
			x.Keys[:cap(x.Keys)][i] = nil
		}
	}
	if !bytes.Equal(room, before) {
		t.Error("the bytes that were handed in have changed")
	}
	// Nor does a later change of them show.
	x, _ := keygram.Parse(room[:len(told)])
	clear(room)
	if !alike(x, g) {
		t.Error("the bytes that were handed in are kept")
	}
}

// P2: the same bytes tell the same, whatever was asked in between.
func TestParseAgain(t *testing.T) {
	chance := rand.New(rand.NewSource(5))
	for range 500 {
		b := whole(anyGram(chance))
		b[chance.Intn(len(b))] += byte(chance.Intn(2))
		g, e := keygram.Parse(b)
		keygram.Parse(nil)
		keygram.Parse(b[1:])
		keygram.Bytes(anyGram(chance))
		again, x := keygram.Parse(slices.Clone(b))
		if e != x || !alike(g, again) {
			t.Fatal(b, g, e, again, x)
		}
	}
}

// P1, P14.2, P14.3: any bytes.
func FuzzParse(f *testing.F) {
	f.Add([]byte{'K', 2, 172, 2, 1, 2, 5, 1, 1, 97})
	f.Add([]byte{'K', 0, 0, 1, 1, 1, 2, 0, 9})
	f.Add(behindK(300, 2, 512, 1, math.MaxUint64, 2, 1, 97, 1, 97))
	f.Add([]byte("F"))
	f.Fuzz(func(t *testing.T, b []byte) { agreesParsed(t, b) })
}
