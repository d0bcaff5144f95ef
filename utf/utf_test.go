package utf_test

import (
	"bytes"
	"slices"
	"testing"
	"unicode/utf8"

	"prolepsis/utf"
)

// broken: Broken, n times.
func broken(n int, behind ...rune) []rune {
	return append(slices.Repeat([]rune{utf.Broken}, n), behind...)
}

// edges: runes about each border that the chapter names.
func edges() []rune {
	return []rune{0, 1, 'A', 0x7e, 0x7f, 0x80, 0x81, 0xbf, 0xc0, 0xff, 0x7fe, 0x7ff, 0x800, 0x801, 0xfff, 0x1000,
		0xcfff, 0xd000, 0xd7fe, 0xd7ff, 0xe000, 0xe001, 0xfffc, 0xfffd, 0xfffe, 0xffff,
		0x10000, 0x10001, 0x1f600, 0x3ffff, 0x40000, 0xfffff, 0x100000, 0x10fffe, 0x10ffff}
}

// wrongs: runes that are no scalars.
func wrongs() []rune {
	return []rune{-1 << 31, -0x110000, -0xd800, -'A', -2, -1, 0xd800, 0xd801, 0xdbff, 0xdc00, 0xdffe, 0xdfff, 0x110000, 0x110001, 0x13ffff, 0x200041, 1<<31 - 1}
}

// book tells by the chapter's words alone what bytes are: it holds all scalars' bytes, and all that they begin with.
type book struct {
	whole map[string]rune
	begun map[string]bool
}

func newBook() *book {
	k := &book{whole: map[string]rune{}, begun: map[string]bool{}}
	for r := rune(0); r <= 0x10ffff; r++ {
		if r >= 0xd800 && r <= 0xdfff {
			continue
		}
		b := string(r)
		k.whole[b] = r
		for i := 1; i < len(b); i++ {
			k.begun[b[:i]] = true
		}
	}
	return k
}

// first: the first scalar of bytes, and how many it has.
func (k *book) first(b string) (rune, int) {
	if b == "" {
		return 0, 0
	}
	for n := 1; n <= min(4, len(b)); n++ {
		if r, ok := k.whole[b[:n]]; ok {
			return r, n
		}
	}
	if k.begun[b] {
		return 0, 0
	}
	longest := 1
	for n := 1; n <= min(4, len(b)); n++ {
		if k.begun[b[:n]] {
			longest = n
		}
	}
	return utf.Broken, longest
}

// runes: all scalars of bytes, and whether none was broken.
func (k *book) runes(b string) ([]rune, bool) {
	var l []rune
	right := true
	for b != "" {
		r, n := k.first(b)
		if n == 0 {
			return append(l, utf.Broken), false
		}
		_, ok := k.whole[b[:n]]
		right = right && ok
		l, b = append(l, r), b[n:]
	}
	return l, right
}

// classes: bytes about each border at which a first or a later byte changes what it means.
func classes() []byte {
	return []byte{0, 'A', 0x7f, 0x80, 0x8f, 0x90, 0x9f, 0xa0, 0xbd, 0xbf, 0xc0, 0xc1, 0xc2, 0xdf, 0xe0, 0xe1, 0xec, 0xed, 0xee, 0xef, 0xf0, 0xf1, 0xf3, 0xf4, 0xf5, 0xf7, 0xf8, 0xff}
}

// texts: bytes of all shapes: all of one and two, and of three and four by their classes.
func texts(yield func(string) bool) {
	for a := range 256 {
		if !yield(string([]byte{byte(a)})) {
			return
		}
		for b := range 256 {
			if !yield(string([]byte{byte(a), byte(b)})) {
				return
			}
		}
	}
	l := []string{""}
	for range 4 {
		var longer []string
		for _, x := range l {
			for _, c := range classes() {
				longer = append(longer, x+string([]byte{c}))
			}
		}
		l = longer
		for _, x := range l {
			if !yield(x) {
				return
			}
		}
	}
}

// P2.1

func TestScalar(t *testing.T) {
	for _, r := range edges() {
		if !utf.Scalar(r) {
			t.Errorf("Scalar(%x): false", r)
		}
	}
	for _, r := range wrongs() {
		if utf.Scalar(r) {
			t.Errorf("Scalar(%x): true", r)
		}
	}
	for r := rune(-0x20000); r < 0x130000; r++ {
		if s, want := utf.Scalar(r), utf8.ValidRune(r); s != want {
			t.Fatalf("Scalar(%x): %v", r, s)
		}
	}
}

func TestBroken(t *testing.T) {
	if utf.Broken != 0xfffd {
		t.Errorf("Broken: %x", utf.Broken)
	}
}

func TestBytes(t *testing.T) {
	for _, x := range []struct {
		l []rune
		b string
	}{
		{nil, ""},
		{[]rune{0}, "\x00"},
		{[]rune{0x7f}, "\x7f"},
		{[]rune{0x80}, "\xc2\x80"},
		{[]rune{0xe9}, "\xc3\xa9"},
		{[]rune{0x7ff}, "\xdf\xbf"},
		{[]rune{0x800}, "\xe0\xa0\x80"},
		{[]rune{0x20ac}, "\xe2\x82\xac"},
		{[]rune{0xd7ff}, "\xed\x9f\xbf"},
		{[]rune{0xe000}, "\xee\x80\x80"},
		{[]rune{0xffff}, "\xef\xbf\xbf"},
		{[]rune{0x10000}, "\xf0\x90\x80\x80"},
		{[]rune{0x1f600}, "\xf0\x9f\x98\x80"},
		{[]rune{0x10ffff}, "\xf4\x8f\xbf\xbf"},
		{[]rune{utf.Broken}, "\xef\xbf\xbd"},
		{[]rune{'a', 0xe9, -1, 'b', 0xd800, 0x110000, 0x1f600}, "a\xc3\xa9\xef\xbf\xbdb\xef\xbf\xbd\xef\xbf\xbd\xf0\x9f\x98\x80"},
	} {
		if b := utf.Bytes(x.l...); string(b) != x.b {
			t.Errorf("Bytes(%x): % x, not % x", x.l, b, x.b)
		}
	}
	for _, r := range wrongs() {
		if b := utf.Bytes(r); string(b) != "\xef\xbf\xbd" {
			t.Errorf("Bytes(%x): % x", r, b)
		}
	}
	for r := rune(0); r <= 0x110000; r++ {
		if b := utf.Bytes(r); string(b) != string(r) {
			t.Fatalf("Bytes(%x): % x", r, b)
		}
	}
}

func TestFirst(t *testing.T) {
	for _, x := range []struct {
		b string
		r rune
		n int
	}{
		{"", 0, 0},
		{"\x00", 0, 1},
		{"ab", 'a', 1},
		{"\x7f\x80", 0x7f, 1},
		{"\xc3\xa9!", 0xe9, 2},
		{"\xe0\xa0\x80", 0x800, 3},
		{"\xef\xbf\xbd", utf.Broken, 3},
		{"\xf0\x90\x80\x80\x80", 0x10000, 4},
		{"\xf4\x8f\xbf\xbf", 0x10ffff, 4},
		// beginnings
		{"\xc3", 0, 0},
		{"\xe2", 0, 0},
		{"\xe2\x82", 0, 0},
		{"\xed\x9f", 0, 0},
		{"\xf0", 0, 0},
		{"\xf0\x9f", 0, 0},
		{"\xf0\x9f\x98", 0, 0},
		// broken, of one byte
		{"\x80", utf.Broken, 1},
		{"\xbf\x80", utf.Broken, 1},
		{"\xff", utf.Broken, 1},
		{"\xf5\x80\x80\x80", utf.Broken, 1},
		{"\xf8", utf.Broken, 1},
		{"\xc3A", utf.Broken, 1},
		{"\xc3\xc3\xa9", utf.Broken, 1},
		{"\xe2A\xac", utf.Broken, 1},
		{"\xf0A\x98\x80", utf.Broken, 1},
		// broken, of two and of three
		{"\xe2\x82A", utf.Broken, 2},
		{"\xe2\x82\xe2\x82\xac", utf.Broken, 2},
		{"\xf0\x9fA", utf.Broken, 2},
		{"\xf0\x9f\x98A", utf.Broken, 3},
		{"\xf0\x9f\x98\xf0\x9f\x98\x80", utf.Broken, 3},
		// too long for their scalars
		{"\xc0", utf.Broken, 1},
		{"\xc0\x80", utf.Broken, 1},
		{"\xc1\xbf", utf.Broken, 1},
		{"\xe0\x80", utf.Broken, 1},
		{"\xe0\x9f\xbf", utf.Broken, 1},
		{"\xf0\x80\x80\x80", utf.Broken, 1},
		{"\xf0\x8f\xbf\xbf", utf.Broken, 1},
		// of what is no scalar
		{"\xed\xa0", utf.Broken, 1},
		{"\xed\xa0\x80", utf.Broken, 1},
		{"\xed\xbf\xbf", utf.Broken, 1},
		{"\xf4\x90\x80\x80", utf.Broken, 1},
	} {
		if r, n := utf.First([]byte(x.b)); r != x.r || n != x.n {
			t.Errorf("First(% x): %x, %d, not %x, %d", x.b, r, n, x.r, x.n)
		}
	}
	if r, n := utf.First(nil); r != 0 || n != 0 {
		t.Errorf("First(nil): %x, %d", r, n)
	}
}

func TestRunes(t *testing.T) {
	for _, x := range []struct {
		b string
		l []rune
	}{
		{"", nil},
		{"a\xc3\xa9", []rune{'a', 0xe9}},
		{"\xe2\x82\xac\xf0\x9f\x98\x80\x00", []rune{0x20ac, 0x1f600, 0}},
		{"a\xc3", []rune{'a', utf.Broken}},
		{"\xe2\x82", broken(1)},
		{"\xf0\x9f\x98", broken(1)},
		{"\xe2\x82A", broken(1, 'A')},
		{"\xf0\x9f\x98A", broken(1, 'A')},
		{"\xe2\x82\xe2\x82", broken(2)},
		{"\xc0\x80", broken(2)},
		{"\xe0\x80\x80", broken(3)},
		{"\xf0\x80\x80\x80", broken(4)},
		{"\xed\xa0\x80", broken(3)},
		{"\xf4\x90\x80\x80", broken(4)},
		{"\xff\xfe\xef\xbf\xbdz", broken(3, 'z')},
	} {
		if l := utf.Runes([]byte(x.b)); !slices.Equal(l, x.l) {
			t.Errorf("Runes(% x): %x, not %x", x.b, l, x.l)
		}
	}
	if l := utf.Runes(nil); len(l) != 0 {
		t.Errorf("Runes(nil): %x", l)
	}
}

func TestValid(t *testing.T) {
	for _, b := range []string{"", "\x00", "a\xc3\xa9\xe2\x82\xac\xf0\x9f\x98\x80", "\xef\xbf\xbd", "\xef\xbf\xbd\xef\xbf\xbd", "\xed\x9f\xbf\xee\x80\x80", "\xf4\x8f\xbf\xbf"} {
		if !utf.Valid([]byte(b)) {
			t.Errorf("Valid(% x): false", b)
		}
	}
	for _, b := range []string{"\xc3", "a\xe2\x82", "\xf0\x9f\x98", "\x80", "a\xff", "\xe2\x82A", "\xf0\x9f\x98A", "\xc0\x80", "\xed\xa0\x80", "\xf4\x90\x80\x80", "\xef\xbf\xbd\xff", "\xff\xef\xbf\xbd", "\xef\xbf"} {
		if utf.Valid([]byte(b)) {
			t.Errorf("Valid(% x): true", b)
		}
	}
	if !utf.Valid(nil) {
		t.Error("Valid(nil): false")
	}
}

func TestByTheBook(t *testing.T) {
	k := newBook()
	for b := range texts {
		r, n := utf.First([]byte(b))
		if wr, wn := k.first(b); r != wr || n != wn {
			t.Fatalf("First(% x): %x, %d, not %x, %d", b, r, n, wr, wn)
		}
		l, right := k.runes(b)
		if got := utf.Runes([]byte(b)); !slices.Equal(got, l) {
			t.Fatalf("Runes(% x): %x, not %x", b, got, l)
		}
		if got := utf.Valid([]byte(b)); got != right {
			t.Fatalf("Valid(% x): %v", b, got)
		}
	}
}

// P2.3

func TestScalarsAreToldAsThese(t *testing.T) {
	for r := rune(0); r <= 0x10ffff; r++ {
		if !utf.Scalar(r) {
			continue
		}
		b := utf.Bytes(r)
		if got, n := utf.First(append(b, 0x80)); got != r || n != len(b) {
			t.Fatalf("First of %x's bytes: %x, %d", r, got, n)
		}
	}
	l := edges()
	for _, a := range edges() {
		l = append(l, a, 'x', a)
		b := utf.Bytes(l...)
		if got := utf.Runes(b); !slices.Equal(got, l) {
			t.Fatalf("Runes of the bytes of %x: %x", l, got)
		}
		if !utf.Valid(b) {
			t.Fatalf("the bytes of %x aren't valid", l)
		}
	}
}

// Of the whole: P1, P2, and the rule of memory

func TestArgumentsStay(t *testing.T) {
	l := append(make([]rune, 0, 9), 'a', -1, 0x20ac)
	utf.Bytes(l...)
	if !slices.Equal(l[:4], []rune{'a', -1, 0x20ac, 0}) {
		t.Errorf("Bytes changed its runes: %x", l[:4])
	}
	for _, x := range []string{"a\xc3\xa9", "\xe2\x82", "\xe2\x82A", "\xff"} {
		b := append(make([]byte, 0, 9), x...)
		utf.First(b)
		utf.Runes(b)
		utf.Valid(b)
		if got := b[:9]; !bytes.Equal(got, append([]byte(x), make([]byte, 9-len(x))...)) {
			t.Errorf("% x was changed: % x", x, got)
		}
	}
}

func TestSameAnswers(t *testing.T) {
	in := []byte("a\xc3\xa9\xe2\x82A\xff\xf0\x9f")
	a, b := utf.Runes(in), utf.Bytes(edges()...)
	x, y := slices.Clone(a), bytes.Clone(b)
	clear(a)
	clear(b)
	if got := utf.Runes(in); !slices.Equal(got, x) {
		t.Errorf("Runes: %x, then %x", x, got)
	}
	if got := utf.Bytes(edges()...); !bytes.Equal(got, y) {
		t.Errorf("Bytes: % x, then % x", y, got)
	}
}

func FuzzRunes(f *testing.F) {
	for _, x := range []string{"", "a\xc3\xa9", "\xe2\x82A", "\xed\xa0\x80", "\xf0\x9f\x98"} {
		f.Add([]byte(x))
	}
	f.Fuzz(func(t *testing.T, b []byte) {
		if got, want := utf.Valid(b), utf8.Valid(b); got != want {
			t.Errorf("Valid(% x): %v", b, got)
		}
		l := utf.Runes(b)
		if again := utf.Runes(utf.Bytes(l...)); !slices.Equal(again, l) {
			t.Errorf("Runes(% x): %x, but its bytes tell %x", b, l, again)
		}
		if utf.Valid(b) && !bytes.Equal(utf.Bytes(l...), b) {
			t.Errorf("Runes(% x): %x", b, l)
		}
	})
}
