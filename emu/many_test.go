package emu_test

import (
	"fmt"
	"math"
	"math/rand"
	"slices"
	"testing"

	"prolepsis/api"
	"prolepsis/emu"
	"prolepsis/parse"
)

// The numbers of the tests: none, below 1, of small grids, beside the greatest one's sides, and from end to end.
var numbers = []int{math.MinInt, math.MinInt + 1, -512, -2, -1, 0, 1, 2, 3, 4, 5, 6, 511, 512, 513, 9999, math.MaxInt32, math.MaxInt - 1, math.MaxInt}

// allEvents: each kind of event, at its edges.
func allEvents() []Event {
	var l []Event
	for _, r := range []rune{'a', ' ', '~', 0xe9, 0xfffd, 0x3042, 0x1f600, 0x301, 0x302, 0xfe0f, 0x200b, 0x85, 0x1b, 0x7f, 0xa, -1, 0xd800, 0x110000} {
		l = append(l, printed(r))
	}
	for r := rune(-1); r < 0x22; r++ {
		l = append(l, controlled(r))
	}
	for r := rune('@'); r <= '~'; r++ {
		l = append(l, sequence(r), sequence(r, 2), sequence(r, 1, 2))
	}
	for _, r := range "ABCDHJK" {
		for _, n := range numbers {
			l = append(l, sequence(r, n), sequence(r, n, 2), sequence(r, 2, n))
		}
	}
	for _, n := range []int{-2, -1, 0, 1, 2, 4, 5, 7, 22, 24, 25, 27, 30, 37, 39, 40, 47, 49, 90, 97, 100, 107, 108} {
		l = append(l, sequence('m', n), sequence('m', n, 4), sequence('m', 42, n))
	}
	return append(l, Event{}, Event{Kind: 4, R: 'a'}, Event{Kind: -1, R: 'A'})
}

// fillings: what may stand in a row, from left to right, again and again: plain ones, wide ones from the first or second column on, with marks and without.
var fillings = [][]rune{{}, {'p', 'q', 'r'}, {0x3042, 0x3044}, {'x', 0x3042, 0x301}, {'y', 0x301, 0x302, 0x3042}}

// filled: the events that fill each row up to its end, none of which scrolls.
func filled(rows, cols int, filling []rune) []Event {
	l := []Event{sequence('m', 7, 33, 45)}
	for r := range rows {
		l = append(l, placed(r, 0))
		if len(filling) == 0 {
			continue
		}
		for c, i := 0, 0; c < cols; i++ {
			x := filling[i%len(filling)]
			w := 1
			if x >= 0x3000 {
				w = 2
			} else if x >= 0x300 {
				w = 0
			}
			if c+w > cols {
				break
			}
			l = append(l, printed(x))
			c += w
		}
	}
	return l
}

// TestEachEventAtEachPlace: each event, at each place of small grids, about to wrap and not, with all that may stand there, by several pens, is done as the model does it.
func TestEachEventAtEachPlace(t *testing.T) {
	events := allEvents()
	pens := []Event{sequence('m'), sequence('m', 1, 4, 31, 44)}
	for _, size := range [][2]int{{1, 1}, {1, 2}, {2, 1}, {3, 1}, {1, 5}, {3, 3}, {3, 4}} {
		rows, cols := size[0], size[1]
		for _, filling := range fillings {
			for _, turned := range pens {
				begin := append(filled(rows, cols, filling), turned)
				eachEvent(t, rows, cols, begin, events)
			}
		}
	}
}

// eachEvent: behind those of the beginning, at each place, about to wrap and not.
func eachEvent(t *testing.T, rows, cols int, begin, events []Event) {
	t.Helper()
	for place := range rows * cols {
		r, c := place/cols, place%cols
		ways := [][]Event{{placed(r, c)}}
		if c == cols-1 {
			ways = append(ways, []Event{placed(r, c), printed('w')})
		}
		if cols > 1 && c == cols-1 {
			ways = append(ways, []Event{placed(r, c-1), printed(0x3046)})
		}
		for _, way := range ways {
			e, m := both(t, rows, cols)
			e.Do(begin...)
			e.Do(way...)
			m.do(begin...).do(way...)
			what := fmt.Sprintf("%d, %d, %v, %v", rows, cols, begin, way)
			check(t, what, e, m)
			for _, x := range events {
				one := e.Copy()
				one.Do(x)
				check(t, fmt.Sprintf("%s, %v", what, x), one, m.clone().do(x))
			}
			check(t, what, e, m)
		}
	}
}

// TestShortTexts: all short texts of some bytes, done as the model does it.
func TestShortTexts(t *testing.T) {
	parts := []string{"a", "あ", "\u0301", "\r", "\n", "\b", "\x1b[A", "\x1b[2;2H", "\x1b[C", "\x1b[J", "\x1b[1K", "\x1b[41m"}
	for _, size := range [][2]int{{1, 1}, {1, 2}, {2, 2}, {2, 3}} {
		for i := range len(parts) * len(parts) * len(parts) * len(parts) {
			s := ""
			for range 4 {
				s += parts[i%len(parts)]
				i /= len(parts)
			}
			e, m := both(t, size[0], size[1])
			e.Feed([]byte(s)...)
			check(t, fmt.Sprintf("%v, %q", size, s), e, m.do(parse.All([]byte(s))...))
		}
	}
}

// chance: an event by chance.
func chance(rnd *rand.Rand) Event {
	pick := func() int { return numbers[rnd.Intn(len(numbers))] }
	switch rnd.Intn(10) {
	case 0:
		return controlled([]rune{8, 0xa, 0xd, 9, 0x7f}[rnd.Intn(5)])
	case 1:
		return placed(rnd.Intn(7), rnd.Intn(9))
	case 2, 3:
		return sequence([]rune("ABCDHJKhX")[rnd.Intn(9)], []int{pick(), pick(), pick()}[:rnd.Intn(4)]...)
	case 4:
		return sequence('m', []int{rnd.Intn(110) - 1, rnd.Intn(110), pick()}[:rnd.Intn(4)]...)
	case 5:
		return printed([]rune{0x301, 0x302, 0xfe0f, 0x20d0}[rnd.Intn(4)])
	case 6:
		return sequence('J', rnd.Intn(4)-1)
	case 7:
		return printed(0x3042 + rnd.Int31n(50))
	case 8:
		return Event{Kind: rnd.Intn(6) - 1, R: rnd.Int31n(0x200) - 8, N: []int{pick()}}
	}
	return printed('a' + rnd.Int31n(26))
}

func TestManyEvents(t *testing.T) {
	rnd := rand.New(rand.NewSource(9))
	for range 300 {
		e, m := both(t, 1+rnd.Intn(6), 1+rnd.Intn(8))
		for i := range 200 {
			if rnd.Intn(40) == 0 {
				rows, cols := rnd.Intn(8), rnd.Intn(10)
				if have, want := e.Resize(rows, cols), m.resize(rows, cols); have != want {
					t.Fatalf("%d, %d: %d, not %d", rows, cols, have, want)
				}
			}
			x := chance(rnd)
			e.Do(x)
			check(t, fmt.Sprint(i, x), e, m.do(x))
		}
	}
}

// byChance: bytes of which many tell something, and some tell nothing.
func byChance(rnd *rand.Rand, n int) []byte {
	var b []byte
	for len(b) < n {
		switch rnd.Intn(8) {
		case 0:
			b = append(b, byte(rnd.Intn(256)))
		case 1:
			b = append(b, "\r\n\b\x18\t"[rnd.Intn(5)])
		case 2:
			b = fmt.Appendf(b, "\x1b[%d%c", rnd.Intn(5), "ABCDHJKmh"[rnd.Intn(9)])
		case 3:
			b = fmt.Appendf(b, "\x1b[%d;%dH", rnd.Intn(7), rnd.Intn(9))
		case 4:
			b = fmt.Appendf(b, "\x1b[;%d;%dm", rnd.Intn(108), rnd.Intn(108))
		case 5:
			b = append(b, []string{"あ", "\u0301", "é", "\U0001f600"}[rnd.Intn(4)]...)
		default:
			b = append(b, byte('a'+rnd.Intn(26)))
		}
	}
	return b
}

// checkCuts: however bytes are cut, all is the same as at once, and as the model has it.
func checkCuts(t *testing.T, rows, cols int, b []byte) {
	t.Helper()
	whole, m := both(t, rows, cols)
	whole.Feed(b...)
	var p parse.Parser
	check(t, fmt.Sprintf("%d, %d, %q", rows, cols, b), whole, m.do(p.Feed(b...)...))
	if whole.Rest() != p.Rest() {
		t.Fatalf("%q: %v, not %v", b, whole.Rest(), p.Rest())
	}
	single := must(t, rows, cols)
	for _, c := range b {
		single.Feed(c)
	}
	if !same(single, whole) {
		t.Fatalf("%q one by one: %q, not %q", b, seen(single), seen(whole))
	}
	head := must(t, rows, cols)
	for i := range b {
		// The first part is fed to one, and each time the rest to its copy.
		two := head.Copy()
		two.Feed(b[i:]...)
		if !same(two, whole) {
			t.Fatalf("%q cut at %d: %q, not %q", b, i, seen(two), seen(whole))
		}
		head.Feed(b[i])
	}
}

func TestHoweverBytesAreCut(t *testing.T) {
	for _, s := range []string{
		"", "abc", "aあ\u0301b\r\nc", "\x1b[1;31;42mab\x1b[;5Hc\x1b[1J\x1b[m", "a\xe2\x82b\xff\xed\xa0\x80", "\x1b[3\n1mx\x1b(By\x1b[?25hz",
		"abcdef\b\b\x1b[K\U0001f600\x1b[2J\x18\x1b[\x1a1m",
	} {
		for _, size := range [][2]int{{1, 1}, {1, 4}, {2, 3}, {5, 1}} {
			checkCuts(t, size[0], size[1], []byte(s))
		}
	}
	rnd := rand.New(rand.NewSource(93))
	for range 300 {
		checkCuts(t, 1+rnd.Intn(4), 1+rnd.Intn(7), byChance(rnd, 1+rnd.Intn(60)))
	}
}

// TestCopiesGoTheirOwnWays: at each place of bytes a copy is fed other ones, which neither sees of the other.
func TestCopiesGoTheirOwnWays(t *testing.T) {
	rnd := rand.New(rand.NewSource(92))
	for range 60 {
		b, other := byChance(rnd, 40), byChance(rnd, 20)
		e := must(t, 3, 5)
		for i, c := range b {
			copied := e.Copy()
			copied.Feed(other...)
			fresh := must(t, 3, 5)
			fresh.Feed(slices.Concat(b[:i], other)...)
			if !same(copied, fresh) {
				t.Fatalf("%q, %q: %q, not %q", b[:i], other, seen(copied), seen(fresh))
			}
			e.Feed(c)
			if f := copied.Resize(1+rnd.Intn(5), 1+rnd.Intn(6)); f != api.OK {
				t.Fatal(f)
			}
		}
		fresh := must(t, 3, 5)
		fresh.Feed(b...)
		if !same(e, fresh) {
			t.Fatalf("%q: %q, not %q", b, seen(e), seen(fresh))
		}
	}
}

// TestSameAnswers: the same calls have the same answers, in whatever order maps are gone through.
func TestSameAnswers(t *testing.T) {
	run := func() []string {
		rnd := rand.New(rand.NewSource(2))
		e, _ := emu.New(4, 7)
		var l []string
		for range 200 {
			e.Feed(byChance(rnd, 9)...)
			e.Do(chance(rnd))
			f := e.Resize(rnd.Intn(6), rnd.Intn(9))
			l = append(l, fmt.Sprint(seen(e), e.Pen(), e.Rest(), f, e.Grid().Line(0)))
		}
		return l
	}
	first := run()
	for range 5 {
		if !slices.Equal(run(), first) {
			t.Fatal("other answers")
		}
	}
}

// TestTheGreatest: the greatest emulator is filled, wraps in its last place, and scrolls.
func TestTheGreatest(t *testing.T) {
	e, m := both(t, 512, 512)
	b := []byte("\x1b[512;512H\x1b[46mab\xe3\x81\x82\x1b[9999A\x1b[9999Dx\x1b[9999B\x1b[9999Cy\n\x1b[1;510Hあいc")
	e.Feed(b...)
	check(t, "the greatest", e, m.do(parse.All(b)...))
	for range 600 {
		e.Feed('\n')
		m.feed()
		m.wrap = false
	}
	check(t, "the greatest, scrolled", e, m)
}

func FuzzEmu(f *testing.F) {
	f.Add(byte(2), byte(3), []byte("abcd\x1b[2J"))
	f.Add(byte(1), byte(1), []byte("あa\u0301\n\x1b[31m\x1b[K"))
	f.Add(byte(3), byte(4), []byte("\x1b[;5H\x1b[1J\xe2\x82\xff\r\b\x1b[9999B"))
	f.Fuzz(func(t *testing.T, rows, cols byte, b []byte) {
		if len(b) > 200 {
			b = b[:200]
		}
		checkCuts(t, 1+int(rows%8), 1+int(cols%10), b)
	})
}
