package keygram_test

import (
	"bytes"
	"encoding/binary"
	"math"
	"math/big"
	"math/rand"
	"slices"
	"strings"
	"testing"

	"prolepsis/api"
	"prolepsis/keygram"
	"prolepsis/num"
)

type Gram = keygram.Gram

// top is the greatest number.
const top = math.MaxUint64

// edges: numbers about each border of a number's bytes.
func edges() []uint64 {
	return []uint64{0, 1, 2, 63, 64, 65, 127, 128, 129, 300, 16383, 16384, 1<<31 - 1, 1 << 31, 1<<32 - 1, 1 << 32, 1<<32 + 1, 1<<63 - 1, 1 << 63, 1<<63 + 1, top - 64, top - 63, top - 2, top - 1, top}
}

// keys: a key of each text.
func keys(l ...string) [][]byte {
	var all [][]byte
	for _, k := range l {
		all = append(all, []byte(k))
	}
	return all
}

// many: so many keys, each another one than those next to it.
func many(n int) [][]byte {
	l := make([][]byte, n)
	for i := range l {
		l[i] = bytes.Repeat([]byte{byte('0' + i)}, 1+i%8)
	}
	return l
}

// made: a gram of these numbers, sides and keys.
func made(ack, stamp uint64, rows, cols int, first uint64, keys ...[]byte) Gram {
	return Gram{Ack: ack, Stamp: stamp, Rows: rows, Cols: cols, First: first, Keys: keys}
}

// keyed: a right gram, if First and the keys are.
func keyed(first uint64, keys ...[]byte) Gram { return made(2, 300, 24, 80, first, keys...) }

// clone: a gram that shares nothing with another one.
func clone(g Gram) Gram {
	g.Keys = slices.Clone(g.Keys)
	for i, k := range g.Keys {
		g.Keys[i] = slices.Clone(k)
	}
	return g
}

// toldBy: numbers' bytes.
func toldBy(numbers ...uint64) []byte {
	var b []byte
	for _, n := range numbers {
		b = binary.AppendUvarint(b, n)
	}
	return b
}

// behindK: K, and numbers' bytes.
func behindK(numbers ...uint64) []byte { return slices.Concat([]byte("K"), toldBy(numbers...)) }

// whole: the bytes that the words give a gram, be it right or not, with sides that aren't below 0.
func whole(g Gram) []byte {
	b := behindK(g.Ack, g.Stamp, uint64(g.Rows), uint64(g.Cols), g.First, uint64(len(g.Keys)))
	for _, k := range g.Keys {
		b = slices.Concat(b, toldBy(uint64(len(k))), k)
	}
	return b
}

// number: the number of a gram's key, with no bound.
func number(g Gram, key int) *big.Int {
	return new(big.Int).Add(new(big.Int).SetUint64(g.First), big.NewInt(int64(key)))
}

// checked: what the chapter says of Check.
func checked(g Gram) api.Errno {
	for _, side := range []int{g.Rows, g.Cols} {
		if side < 1 || side > 512 {
			return 11
		}
	}
	if g.First == 0 {
		return 5
	}
	if len(g.Keys) > 64 {
		return 6
	}
	for _, k := range g.Keys {
		if len(k) < 1 {
			return 3
		}
		if len(k) > 8 {
			return 2
		}
	}
	if !number(g, len(g.Keys)-1).IsUint64() {
		return 5
	}
	return 0
}

// told: what the chapter says of Bytes.
func told(g Gram) ([]byte, api.Errno) {
	if e := checked(g); e != 0 {
		return nil, e
	}
	return whole(g), 0
}

// last: what the chapter says of Last.
func last(g Gram) uint64 {
	if checked(g) != 0 {
		return 0
	}
	return number(g, len(g.Keys)-1).Uint64()
}

// keyOf: what the chapter says of Key.
func keyOf(g Gram, n uint64) ([]byte, bool) {
	if checked(g) != 0 {
		return nil, false
	}
	for i, k := range g.Keys {
		if number(g, i).Uint64() == n {
			return k, true
		}
	}
	return nil, false
}

// parsed: what the chapter says of Parse.
func parsed(b []byte) (Gram, api.Errno) {
	if !strings.HasPrefix(string(b), "K") {
		return Gram{}, 12
	}
	left := b[1:]
	// next: the next number, and e of one that is more than most.
	next := func(most uint64, e api.Errno) (uint64, api.Errno) {
		n, size, wrong := num.Read(left)
		if wrong != 0 {
			return 0, wrong
		}
		if n > most {
			return 0, e
		}
		left = left[size:]
		return n, 0
	}
	var l [6]uint64
	for i, most := range []uint64{top, top, 512, 512, top, 64} {
		n, e := next(most, []api.Errno{0, 0, 5, 5, 0, 6}[i])
		if e != 0 {
			return Gram{}, e
		}
		l[i] = n
	}
	g := made(l[0], l[1], int(l[2]), int(l[3]), l[4])
	for range l[5] {
		size, e := next(8, 5)
		if e != 0 {
			return Gram{}, e
		}
		if size == 0 {
			return Gram{}, 3
		}
		if uint64(len(left)) < size {
			return Gram{}, 4
		}
		g.Keys = append(g.Keys, slices.Clone(left[:size]))
		left = left[size:]
	}
	if len(left) > 0 {
		return Gram{}, 3
	}
	if e := checked(g); e != 0 {
		return Gram{}, e
	}
	return g, 0
}

// alike: what the words say of grams that are the same, key by key.
func alike(f, g Gram) bool {
	if f.Ack != g.Ack || f.Stamp != g.Stamp || f.Rows != g.Rows || f.Cols != g.Cols || f.First != g.First || len(f.Keys) != len(g.Keys) {
		return false
	}
	for i, k := range f.Keys {
		if string(k) != string(g.Keys[i]) {
			return false
		}
	}
	return true
}

// zero: nothing is told beside an error.
func zero(g Gram) bool { return alike(g, Gram{}) }

// near: numbers about those of a gram's keys.
func near(g Gram) []uint64 {
	n := uint64(len(g.Keys))
	return append(edges(), g.First-2, g.First-1, g.First, g.First+1, g.First+n/2, g.First+n-2, g.First+n-1, g.First+n, g.First+n+1)
}

// agreesTold: all that is told of any gram is what the chapter says; what was told is parsed as it was.
func agreesTold(t *testing.T, g Gram) {
	t.Helper()
	was := clone(g)
	want, e := told(g)
	got, x := keygram.Bytes(g)
	if x != e || !bytes.Equal(got, want) || keygram.Check(g) != e {
		t.Fatalf("%v: %v, %d, checked %d, not %v, %d", g, got, x, keygram.Check(g), want, e)
	}
	if keygram.Last(g) != last(g) {
		t.Fatalf("%v: the last is %d, not %d", g, keygram.Last(g), last(g))
	}
	for _, n := range near(g) {
		k, ok := keyOf(g, n)
		if l, is := keygram.Key(g, n); is != ok || !bytes.Equal(l, k) {
			t.Fatalf("%v: the key %d is %q, %v, not %q, %v", g, n, l, is, k, ok)
		}
	}
	if !alike(g, was) {
		t.Fatalf("%v: is %v now", was, g)
	}
	if e != 0 {
		return
	}
	if h, e := keygram.Parse(got); e != 0 || !alike(h, g) || !keygram.Same(h, g) {
		t.Fatalf("%v: parsed as %v, %d", g, h, e)
	}
}

// agreesParsed: Parse of any bytes is what the chapter says; what was parsed is told by just these bytes.
func agreesParsed(t *testing.T, b []byte) {
	t.Helper()
	was := slices.Clone(b)
	want, e := parsed(b)
	g, got := keygram.Parse(b)
	if got != e || !alike(g, want) {
		t.Fatalf("%v: %v, %d, not %v, %d", b, g, got, want, e)
	}
	if !bytes.Equal(b, was) {
		t.Fatalf("%v: is %v now", was, b)
	}
	if e != 0 {
		return
	}
	if again, e := keygram.Bytes(g); e != 0 || keygram.Check(g) != 0 || !bytes.Equal(again, b) {
		t.Fatalf("%v: told again as %v, %d", b, again, e)
	}
}

// anyNumber: an edge, a small one, or any at all.
func anyNumber(chance *rand.Rand) uint64 {
	l := edges()
	switch chance.Intn(3) {
	case 0:
		return l[chance.Intn(len(l))]
	case 1:
		return uint64(chance.Intn(300))
	}
	return chance.Uint64() >> chance.Intn(64)
}

// anyKey: a key of so many bytes, by chance.
func anyKey(chance *rand.Rand, n int) []byte {
	k := make([]byte, n)
	chance.Read(k)
	return k
}

// anyGram: a right gram, by chance.
func anyGram(chance *rand.Rand) Gram {
	g := made(anyNumber(chance), anyNumber(chance), 1+chance.Intn(512), 1+chance.Intn(512), max(1, anyNumber(chance)))
	for range chance.Intn(1 + chance.Intn(65)) {
		g.Keys = append(g.Keys, anyKey(chance, 1+chance.Intn(8)))
	}
	if n := uint64(len(g.Keys)); g.First > top-n {
		g.First -= n
	}
	return g
}
