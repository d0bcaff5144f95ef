package utf_test

import (
	"bytes"
	"slices"
	"testing"

	"prolepsis/utf"
)

// samples: bytes with all sorts of scalars, broken ones and beginnings among them.
func samples() []string {
	return []string{
		"", "a", "a\xc3\xa9", "\xe2\x82\xac!", "\xf0\x9f\x98\x80\xf0\x9f\x98\x80",
		"\xe2\x82A", "\xf0\x9f\x98A", "\xf0\x9f\x98\xf0\x9f\x98\x80", "\xe2\xe2\x82\xe2\x82\xac",
		"\xc0\x80\xed\xa0\x80\xf4\x90\x80\x80", "\xff\x80\xbfz", "\xc3\xff\xe2\x82\xff\xf0\x9f\x98\xff",
		"a\xc3", "a\xe2\x82", "\xf0\x9f\x98", "\xef\xbf\xbd\xef\xbf", string(utf.Bytes(edges()...)),
	}
}

// P2.2

func TestFeed(t *testing.T) {
	type step struct {
		b    string
		l    []rune
		held string
	}
	for i, steps := range [][]step{
		{{"", nil, ""}, {"a", []rune{'a'}, ""}, {"\xc3\xa9b", []rune{0xe9, 'b'}, ""}},
		{{"\xe2", nil, "\xe2"}, {"", nil, "\xe2"}, {"\x82", nil, "\xe2\x82"}, {"\xac", []rune{0x20ac}, ""}},
		{{"x\xf0\x9f\x98", []rune{'x'}, "\xf0\x9f\x98"}, {"\x80\xc3", []rune{0x1f600}, "\xc3"}, {"\xa9", []rune{0xe9}, ""}},
		{{"\xe2\x82", nil, "\xe2\x82"}, {"A", broken(1, 'A'), ""}},
		{{"\xf0\x9f\x98", nil, "\xf0\x9f\x98"}, {"\xf0", broken(1), "\xf0"}, {"\xff", broken(2), ""}},
		{{"\xf0\x9f", nil, "\xf0\x9f"}, {"\xc3", broken(1), "\xc3"}, {"\xc3", broken(1), "\xc3"}},
		{{"\xed", nil, "\xed"}, {"\xa0", broken(2), ""}, {"\x80", broken(1), ""}},
		{{"\xc0", broken(1), ""}, {"\xff", broken(1), ""}, {"\xf5", broken(1), ""}},
		{{"\xe0", nil, "\xe0"}, {"\x9f", broken(2), ""}},
		{{"\xf4", nil, "\xf4"}, {"\x90\x80", broken(3), ""}},
		{{"\xef\xbf", nil, "\xef\xbf"}, {"\xbd", broken(1), ""}},
		{{"\x00\x00", []rune{0, 0}, ""}},
	} {
		var s utf.Stream
		for _, x := range steps {
			if l := s.Feed([]byte(x.b)...); !slices.Equal(l, x.l) {
				t.Errorf("%d: Feed(% x): %x, not %x", i, x.b, l, x.l)
			}
			if h := s.Held(); string(h) != x.held {
				t.Errorf("%d: behind % x: % x are held, not % x", i, x.b, h, x.held)
			}
		}
	}
}

func TestFlush(t *testing.T) {
	for _, held := range []string{"\xc3", "\xe2", "\xe2\x82", "\xf0", "\xf0\x9f", "\xf0\x9f\x98"} {
		var s utf.Stream
		if l := s.Feed([]byte(held)...); len(l) != 0 || string(s.Held()) != held {
			t.Errorf("% x: %x was told, % x are held", held, l, s.Held())
		}
		if l := s.Flush(); !slices.Equal(l, broken(1)) {
			t.Errorf("Flush with % x: %x", held, l)
		}
		if h := s.Held(); len(h) != 0 {
			t.Errorf("behind Flush % x are held", h)
		}
		if l := s.Flush(); len(l) != 0 {
			t.Errorf("Flush with nothing: %x", l)
		}
		if l := s.Feed(0x82, 'a'); !slices.Equal(l, broken(1, 'a')) {
			t.Errorf("Feed behind Flush: %x", l)
		}
	}
	var s utf.Stream
	s.Feed('a', 0xc3, 0xa9)
	if l := s.Flush(); len(l) != 0 {
		t.Errorf("Flush behind whole scalars: %x", l)
	}
}

func TestHeldAtMostThree(t *testing.T) {
	for b := range texts {
		var s utf.Stream
		for i := range len(b) {
			s.Feed(b[i])
			h := s.Held()
			if len(h) > 3 || !bytes.HasSuffix([]byte(b[:i+1]), h) {
				t.Fatalf("behind % x: % x are held", b[:i+1], h)
			}
			if r, n := utf.First(h); r != 0 || n != 0 {
				t.Fatalf("behind % x: % x are held, but tell %x", b[:i+1], h, r)
			}
		}
	}
}

// P2.3

func TestCutAtEachPlace(t *testing.T) {
	for _, b := range samples() {
		for i := range len(b) + 1 {
			for j := i; j <= len(b); j++ {
				var s utf.Stream
				l := s.Feed([]byte(b[:i])...)
				l = append(l, s.Feed([]byte(b[i:j])...)...)
				l = append(l, s.Feed([]byte(b[j:])...)...)
				l = append(l, s.Flush()...)
				if want := utf.Runes([]byte(b)); !slices.Equal(l, want) {
					t.Fatalf("% x, cut at %d and %d: %x, not %x", b, i, j, l, want)
				}
			}
		}
	}
}

func TestByteByByte(t *testing.T) {
	for b := range texts {
		var whole, s utf.Stream
		atOnce := whole.Feed([]byte(b)...)
		var l []rune
		for i := range len(b) {
			l = append(l, s.Feed(b[i])...)
		}
		if !slices.Equal(l, atOnce) || !bytes.Equal(s.Held(), whole.Held()) {
			t.Fatalf("% x: %x, % x held; at once %x, % x held", b, l, s.Held(), atOnce, whole.Held())
		}
		if l, want := append(l, s.Flush()...), utf.Runes([]byte(b)); !slices.Equal(l, want) {
			t.Fatalf("% x with Flush: %x, not %x", b, l, want)
		}
	}
}

func TestZeroStream(t *testing.T) {
	var s utf.Stream
	if h := s.Held(); len(h) != 0 {
		t.Errorf("the zero stream holds % x", h)
	}
	if l := s.Flush(); len(l) != 0 {
		t.Errorf("the zero stream's Flush: %x", l)
	}
	if l := s.Feed(); len(l) != 0 {
		t.Errorf("the zero stream's Feed of nothing: %x", l)
	}
	if l := new(utf.Stream).Feed('a'); !slices.Equal(l, []rune{'a'}) {
		t.Errorf("a new stream's Feed: %x", l)
	}
}

func TestNilStream(t *testing.T) {
	var s *utf.Stream
	for _, b := range samples() {
		if l := s.Feed([]byte(b)...); len(l) != 0 {
			t.Errorf("a nil stream's Feed(% x): %x", b, l)
		}
	}
	if h := s.Held(); len(h) != 0 {
		t.Errorf("a nil stream holds % x", h)
	}
	if l := s.Flush(); len(l) != 0 {
		t.Errorf("a nil stream's Flush: %x", l)
	}
}

// Of the whole: P2, and the rule of memory

func TestStreamKeepsItsOwn(t *testing.T) {
	var s utf.Stream
	b := append(make([]byte, 0, 8), 0xf0, 0x9f, 0x98)
	s.Feed(b...)
	if !bytes.Equal(b[:8], []byte{0xf0, 0x9f, 0x98, 0, 0, 0, 0, 0}) {
		t.Errorf("Feed changed its bytes: % x", b[:8])
	}
	clear(b[:8])
	one, two := s.Held(), s.Held()
	clear(one)
	if string(two) != "\xf0\x9f\x98" {
		t.Errorf("what is held shares memory: % x", two)
	}
	clear(two[:cap(two)])
	if l := s.Feed(0x80); !slices.Equal(l, []rune{0x1f600}) {
		t.Errorf("what is held was changed from outside: %x", l)
	}
}

func TestStreamsAreApart(t *testing.T) {
	var a, b utf.Stream
	a.Feed(0xe2, 0x82)
	b.Feed(0xc3)
	if l := a.Feed(0xac); !slices.Equal(l, []rune{0x20ac}) {
		t.Errorf("one stream: %x", l)
	}
	if l := b.Feed(0xa9); !slices.Equal(l, []rune{0xe9}) {
		t.Errorf("the other one: %x", l)
	}
}

func FuzzStream(f *testing.F) {
	for _, x := range samples() {
		f.Add([]byte(x), uint8(1), uint8(2))
	}
	f.Fuzz(func(t *testing.T, b []byte, i, j uint8) {
		var s utf.Stream
		var l []rune
		rest := b
		for k := 0; len(rest) > 0; k++ {
			n := min(len(rest), 1+int([]uint8{i, j}[k%2]))
			l = append(l, s.Feed(rest[:n]...)...)
			rest = rest[n:]
		}
		if len(s.Held()) > 3 {
			t.Errorf("% x: % x are held", b, s.Held())
		}
		if l, want := append(l, s.Flush()...), utf.Runes(b); !slices.Equal(l, want) {
			t.Errorf("% x: %x, not %x", b, l, want)
		}
	})
}
