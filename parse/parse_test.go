package parse_test

import (
	"math"
	"slices"
	"testing"

	"prolepsis/parse"
)

type Event = parse.Event

// printed, controlled, sequence: an event of each kind.
func printed(r rune) Event                 { return Event{Kind: 1, R: r} }
func controlled(r rune) Event              { return Event{Kind: 2, R: r} }
func sequence(r rune, n ...int) Event      { return Event{Kind: 3, R: r, N: n} }
func events(l ...Event) []Event            { return l }
func behind(l []Event, m ...Event) []Event { return append(slices.Clone(l), m...) }

// prints: each of a text's runes, printed.
func prints(s string) []Event {
	var l []Event
	for _, r := range s {
		l = append(l, printed(r))
	}
	return l
}

// broken is what stands for what is no scalar.
var broken = printed(0xfffd)

// equal: are events the same, by their fields, and not by the package's own word?
func equal(a, b []Event) bool {
	if len(a) != len(b) {
		return false
	}
	for i := range a {
		if a[i].Kind != b[i].Kind || a[i].R != b[i].R || len(a[i].N) != len(b[i].N) {
			return false
		}
		for k := range a[i].N {
			if a[i].N[k] != b[i].N[k] {
				return false
			}
		}
	}
	return true
}

type told struct {
	b string
	l []Event
}

// told by hand: what bytes tell, with Flush behind them.
func byHand() []told {
	var l []told
	l = append(l, byHandTexts()...)
	l = append(l, byHandScalars()...)
	l = append(l, byHandNumbers()...)
	l = append(l, byHandSequences()...)
	return append(l, byHandControls()...)
}

// byHandTexts: what is printed, and bytes that do something by themselves.
func byHandTexts() []told {
	return []told{
		{"", nil},
		{"a", prints("a")},
		{"a\r\nb", events(printed('a'), controlled(13), controlled(10), printed('b'))},
		{" ~", prints(" ~")},
		{"\x1f \x7f", events(controlled(0x1f), printed(' '), controlled(0x7f))},
		{"\x00\x07", events(controlled(0), controlled(7))},
		{"[1;2m", prints("[1;2m")},
	}
}

// byHandScalars: of one byte to four, whole and broken ones, alone and amid others.
func byHandScalars() []told {
	return []told{
		{"\u00e9\u20ac\U0001f600a", events(printed(0xe9), printed(0x20ac), printed(0x1f600), printed('a'))},
		{"\xc2\x80\xc2\x9b1m", events(printed(0x80), printed(0x9b), printed('1'), printed('m'))},
		{"\xc2\xa0\xdf\xbf\xe0\xa0\x80\xef\xbf\xbf", events(printed(0xa0), printed(0x7ff), printed(0x800), printed(0xffff))},
		{"\xf0\x90\x80\x80\xf4\x8f\xbf\xbf", events(printed(0x10000), printed(0x10ffff))},
		{"\xef\xbf\xbd", events(broken)},
		{"\x80", events(broken)},
		{"\x9b1m", events(broken, printed('1'), printed('m'))},
		{"\xff\xc0\xf5", events(broken, broken, broken)},
		{"\xed\xa0\x80", events(broken, broken, broken)},
		{"\xc3", events(broken)},
		{"\xe3\x81", events(broken)},
		{"\xf0\x9f\x98", events(broken)},
		{"\xe3\x81a", events(broken, printed('a'))},
		{"\xf0\x9f\x98~", events(broken, printed('~'))},
		{"\xe3\x81\xc3\xa9", events(broken, printed(0xe9))},
		{"\xe3\xe3\x81\x82", events(broken, printed(0x3042))},
	}
}

// byHandNumbers: those of sequences.
func byHandNumbers() []told {
	return []told{
		{"\x1b[1;31ma", events(sequence('m', 1, 31), printed('a'))},
		{"\x1b[m", events(sequence('m'))},
		{"\x1b[0m", events(sequence('m', 0))},
		{"\x1b[007m", events(sequence('m', 7))},
		{"\x1b[0123456789m", events(sequence('m', 9999))},
		{"\x1b[59m\x1b[840m\x1b[2367m", events(sequence('m', 59), sequence('m', 840), sequence('m', 2367))},
		{"\x1b[;m", events(sequence('m', -1, -1))},
		{"\x1b[;;m", events(sequence('m', -1, -1, -1))},
		{"\x1b[;5H", events(sequence('H', -1, 5))},
		{"\x1b[5;H", events(sequence('H', 5, -1))},
		{"\x1b[5;;6H", events(sequence('H', 5, -1, 6))},
		{"\x1b[;;7;;H", events(sequence('H', -1, -1, 7, -1, -1))},
		{"\x1b[0;H", events(sequence('H', 0, -1))},
		{"\x1b[1;2;3;4;5;6;7;8m", events(sequence('m', 1, 2, 3, 4, 5, 6, 7, 8))},
		{"\x1b[1;2;3;4;5;6;7;8;m", events(sequence('m', 1, 2, 3, 4, 5, 6, 7, 8))},
		{"\x1b[1;2;3;4;5;6;7;8;9m", events(sequence('m', 1, 2, 3, 4, 5, 6, 7, 8))},
		{"\x1b[1;2;3;4;5;6;7;8;9;10;11m", events(sequence('m', 1, 2, 3, 4, 5, 6, 7, 8))},
		{"\x1b[;;;;;;;m", events(sequence('m', -1, -1, -1, -1, -1, -1, -1, -1))},
		{"\x1b[;;;;;;;8m", events(sequence('m', -1, -1, -1, -1, -1, -1, -1, 8))},
		{"\x1b[;;;;;;;;9m", events(sequence('m', -1, -1, -1, -1, -1, -1, -1, -1))},
		{"\x1b[1;2;3;4;5;6;7m", events(sequence('m', 1, 2, 3, 4, 5, 6, 7))},
		{"\x1b[9998m", events(sequence('m', 9998))},
		{"\x1b[9999m", events(sequence('m', 9999))},
		{"\x1b[10000m", events(sequence('m', 9999))},
		{"\x1b[10001;3m", events(sequence('m', 9999, 3))},
		{"\x1b[99990m", events(sequence('m', 9999))},
		{"\x1b[99999999999999999999999999999999999999999999m", events(sequence('m', 9999))},
		{"\x1b[00000000000000000000000000000000000000000012m", events(sequence('m', 12))},
		{"\x1b[12\x1b[3A", events(sequence('A', 3))},
		{"\x1b[12A\x1b[A", events(sequence('A', 12), sequence('A'))},
		{"\x1b[1;2;3;4;5;6;7;8;9;10A\x1b[3A", events(sequence('A', 1, 2, 3, 4, 5, 6, 7, 8), sequence('A', 3))},
	}
}

// byHandSequences: how they begin, go on and end.
func byHandSequences() []told {
	return []told{
		{"\x1b[@\x1b[~\x1b[A\x1b[[x", events(sequence('@'), sequence('~'), sequence('A'), sequence('['), printed('x'))},
		{"\x1b[3\x1b[4;5~", events(sequence('~', 4, 5))},
		{"\x1b[?25hx", prints("x")},
		{"\x1b[:mx\x1b[<mx\x1b[=mx\x1b[>mx", prints("xxxx")},
		{"\x1b[1:2mx\x1b[1<mx\x1b[1=mx\x1b[1>mx\x1b[1?mx", prints("xxxxx")},
		{"\x1b[ mx\x1b[/mx\x1b[1 mx\x1b[1;2/mx", prints("xxxx")},
		{"\x1b[? 0;:?mx", prints("x")},
		{"\x1b[?@x\x1b[?~x", prints("xx")},
		{"\x1b[?\x7fmx", events(controlled(0x7f), printed('x'))},
		{"\x1b[1\x7fmx", events(controlled(0x7f), sequence('m', 1), printed('x'))},
		{"\x1b(Bx\x1b Fx\x1b/\x7ex", prints("xxx")},
		{"\x1b(((Bx\x1b !/0x", prints("xx")},
		{"\x1b([1mx", prints("1mx")},
		{"\x1bcx\x1b0x\x1b~x\x1bZ\x1b]x", prints("xxxx")},
		{"\x1b1;5m", prints(";5m")},
		{"\x1b\x1b[5A", events(sequence('A', 5))},
		{"\x1b(\x1b[5A", events(sequence('A', 5))},
		{"\x1b[?\x1b[5A", events(sequence('A', 5))},
		{"\x1b[5\x1b(AA", prints("A")},
		{"\x1b", nil},
		{"\x1b[", nil},
		{"\x1b[1;2", nil},
		{"\x1b[?1", nil},
		{"\x1b(", nil},
		{"\x1b[\u00e91m", prints("\u00e91m")},
		{"\x1b[1\xe3\x81\x82m", prints("\u3042m")},
		{"\x1b[?\xffm", events(broken, printed('m'))},
		{"\x1b\xc3[m", events(broken, printed('['), printed('m'))},
		{"\x1b(\x80B", events(broken, printed('B'))},
	}
}

// byHandControls: bytes that are told amid others.
func byHandControls() []told {
	return []told{
		{"\xe3\x81\r", events(broken, controlled(13))},
		{"\xe3\x81\x7f\x82", events(broken, controlled(0x7f), broken)},
		{"\xe3\x81\x18\x82", events(broken, controlled(0x18), broken)},
		{"\xf0\x9f\x98\x1a\x80", events(broken, controlled(0x1a), broken)},
		{"\xc3\x1b\xa9", events(broken, broken)},
		{"\xc3\x1b[7m\xa9", events(broken, sequence('m', 7), broken)},
		{"\x18\xc3\xa9\x18", events(controlled(0x18), printed(0xe9), controlled(0x18))},
		{"\x1a\xc3\xa9\x1a", events(controlled(0x1a), printed(0xe9), controlled(0x1a))},
		{"\x1b\xc3\xa9\x1b", events(printed(0xe9))},
		{"\x1b\x18[m", events(controlled(0x18), printed('['), printed('m'))},
		{"\x1b\x1a[m", events(controlled(0x1a), printed('['), printed('m'))},
		{"\x1b(\x18B", events(controlled(0x18), printed('B'))},
		{"\x1b[1\x18C", events(controlled(0x18), printed('C'))},
		{"\x1b[1\x1aC", events(controlled(0x1a), printed('C'))},
		{"\x1b[?\x18h", events(controlled(0x18), printed('h'))},
		{"\x1b\x08[1\x09;\x0a2\x7fC", events(controlled(8), controlled(9), controlled(10), controlled(0x7f), sequence('C', 1, 2))},
		{"\x1b[\x001\x1f2C", events(controlled(0), controlled(0x1f), sequence('C', 12))},
		{"\x1b(\x0d(B\x0dx", events(controlled(13), controlled(13), printed('x'))},
		{"\x1b[?\x0d2\x0dhx", events(controlled(13), controlled(13), printed('x'))},
		{"\x1b[1\x19\x1c\x17C", events(controlled(0x19), controlled(0x1c), controlled(0x17), sequence('C', 1))},
	}
}

// P8.1: All

func TestAll(t *testing.T) {
	for _, x := range byHand() {
		if l := parse.All([]byte(x.b)); !equal(l, x.l) {
			t.Errorf("All(%q): %v, not %v", x.b, l, x.l)
		}
	}
	if l := parse.All(nil); len(l) != 0 {
		t.Errorf("All(nil): %v", l)
	}
	if l := parse.All([]byte{}); len(l) != 0 {
		t.Errorf("All of no bytes: %v", l)
	}
}

// The chapter's example.
func TestExample(t *testing.T) {
	for _, x := range []told{
		{"\x1b[1;31ma", events(sequence('m', 1, 31), printed('a'))},
		{"\x1b[;5H", events(sequence('H', -1, 5))},
		{"\x1b[?25h", nil},
	} {
		if l := parse.All([]byte(x.b)); !equal(l, x.l) {
			t.Errorf("All(%q): %v, not %v", x.b, l, x.l)
		}
	}
}

func TestKinds(t *testing.T) {
	if parse.Print != 1 || parse.Control != 2 || parse.Sequence != 3 {
		t.Errorf("kinds: %d %d %d", parse.Print, parse.Control, parse.Sequence)
	}
}

// P8.2: Number

func TestNumber(t *testing.T) {
	e := sequence('H', -1, 5, 0, 9999)
	for _, x := range []struct {
		e              Event
		at, none, want int
	}{
		{e, 0, 1, 1},
		{e, 0, -1, -1},
		{e, 1, 7, 5},
		{e, 2, 7, 0},
		{e, 3, 7, 9999},
		{e, 4, 7, 7},
		{e, 5, 0, 0},
		{e, -1, 7, 7},
		{e, -2, math.MinInt, math.MinInt},
		{e, math.MinInt, 7, 7},
		{e, math.MaxInt, math.MaxInt, math.MaxInt},
		{e, math.MaxInt32, -3, -3},
		{e, math.MinInt32, 3, 3},
		{e, 1 << 32, 3, 3},
		{sequence('m'), 0, 4, 4},
		{sequence('m'), -1, 4, 4},
		{Event{Kind: 3, R: 'm', N: []int{}}, 0, 4, 4},
		{printed('a'), 0, 4, 4},
		{controlled(13), 0, 4, 4},
		{Event{}, 0, 4, 4},
	} {
		if n := parse.Number(x.e, x.at, x.none); n != x.want {
			t.Errorf("Number(%v, %d, %d): %d, not %d", x.e, x.at, x.none, n, x.want)
		}
	}
}

// Events that no bytes tell: what stands at the place is told, and only -1 is none.
func TestNumberOfOddEvents(t *testing.T) {
	for _, n := range []int{math.MinInt, -3, -2, 0, 1, 10000, math.MaxInt} {
		for kind := -1; kind <= 4; kind++ {
			e := Event{Kind: kind, N: []int{-1, n}}
			if parse.Number(e, 1, 8) != n || parse.Number(e, 0, 8) != 8 {
				t.Errorf("%v: %d %d", e, parse.Number(e, 0, 8), parse.Number(e, 1, 8))
			}
		}
	}
}

func TestNumberBeyondItsLength(t *testing.T) {
	n := []int{1, 2, 3}
	e := Event{Kind: 3, R: 'm', N: n[:1]}
	if x := parse.Number(e, 1, 9); x != 9 {
		t.Errorf("a number of the spare room: %d", x)
	}
}

// P8.2: Same

func TestSame(t *testing.T) {
	l := events(printed('a'), controlled(13), sequence('m', 1, -1))
	for i, x := range []struct {
		a, b []Event
		want bool
	}{
		{nil, nil, true},
		{nil, []Event{}, true},
		{[]Event{}, []Event{}, true},
		{l, events(printed('a'), controlled(13), sequence('m', 1, -1)), true},
		{events(sequence('m')), events(Event{Kind: 3, R: 'm', N: []int{}}), true},
		{nil, events(Event{}), false},
		{l, nil, false},
		{l, l[:2], false},
		{l, l[1:], false},
		{l, behind(l, printed('a')), false},
		{l, events(controlled('a'), controlled(13), sequence('m', 1, -1)), false},
		{l, events(printed('b'), controlled(13), sequence('m', 1, -1)), false},
		{l, events(printed('a'), controlled(12), sequence('m', 1, -1)), false},
		{l, events(printed('a'), controlled(13), sequence('n', 1, -1)), false},
		{l, events(printed('a'), controlled(13), sequence('m', 1, 0)), false},
		{l, events(printed('a'), controlled(13), sequence('m', 2, -1)), false},
		{l, events(printed('a'), controlled(13), sequence('m', 1)), false},
		{l, events(printed('a'), controlled(13), sequence('m')), false},
		{l, events(printed('a'), controlled(13), sequence('m', 1, -1, -1)), false},
		{l, events(printed('a'), controlled(13), sequence('m', -1, 1)), false},
		{l, events(controlled(13), printed('a'), sequence('m', 1, -1)), false},
		{events(sequence('m')), events(sequence('m', -1)), false},
		{events(Event{Kind: 1, N: []int{1}}), events(Event{Kind: 1, N: []int{2}}), false},
		{events(Event{Kind: 7, R: -1}), events(Event{Kind: 7, R: -1}), true},
		{events(Event{Kind: 7, R: -1}), events(Event{Kind: -7, R: -1}), false},
		{events(sequence('m', math.MinInt)), events(sequence('m', math.MaxInt)), false},
	} {
		if parse.Same(x.a, x.b) != x.want || parse.Same(x.b, x.a) != x.want {
			t.Errorf("%d: Same(%v, %v): %v, %v", i, x.a, x.b, parse.Same(x.a, x.b), parse.Same(x.b, x.a))
		}
	}
}

// Same of all pairs of the lists that are told by hand.
func TestSameOfAllPairs(t *testing.T) {
	l := byHand()
	for _, x := range l {
		for _, y := range l {
			if parse.Same(x.l, y.l) != equal(x.l, y.l) {
				t.Errorf("Same(%v, %v): %v", x.l, y.l, parse.Same(x.l, y.l))
			}
		}
	}
}

// Of the whole: P2, and the rule of memory

func TestNothingIsChanged(t *testing.T) {
	b := append(make([]byte, 0, 16), "\x1b[1;2m\xe3\x81"...)
	was := slices.Clone(b[:cap(b)])
	one := parse.All(b)
	two := parse.All(b)
	if !slices.Equal(b[:cap(b)], was) {
		t.Errorf("All changed its bytes: % x", b[:cap(b)])
	}
	clear(one[0].N[:cap(one[0].N)])
	clear(one[:cap(one)])
	if !equal(two, events(sequence('m', 1, 2), broken)) {
		t.Errorf("two answers share memory: %v", two)
	}
	n := append(make([]int, 0, 4), 1, 2)
	l := append(make([]Event, 0, 4), Event{Kind: 3, R: 'm', N: n})
	parse.Same(l, l)
	parse.Number(l[0], 0, 1)
	if !slices.Equal(n[:4], []int{1, 2, 0, 0}) || !equal(l[:4], events(sequence('m', 1, 2), Event{}, Event{}, Event{})) {
		t.Errorf("Same or Number changed what it was given: %v %v", n[:4], l[:4])
	}
}

// The lists of one answer share nothing: what is put behind one isn't seen in another.
func TestNumbersAreApart(t *testing.T) {
	l := parse.All([]byte("\x1b[1;2m\x1b[3;4m\x1b[5m"))
	for i := range l {
		first := l[i].N
		_ = append(first, 77)
		for k := range first {
			first[k] = 66
		}
		want := events(sequence('m', 66, 66), sequence('m', 66, 66), sequence('m', 66))
		for k := i + 1; k < len(l); k++ {
			want[k].N = [][]int{{1, 2}, {3, 4}, {5}}[k]
		}
		if !equal(l, want) {
			t.Errorf("behind %d: %v, not %v", i, l, want)
		}
	}
}

func TestSameAnswers(t *testing.T) {
	for _, x := range byHand() {
		first := parse.All([]byte(x.b))
		for range 3 {
			if l := parse.All([]byte(x.b)); !equal(l, first) {
				t.Errorf("All(%q): %v, then %v", x.b, first, l)
			}
		}
	}
}
