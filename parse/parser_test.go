package parse_test

import (
	"bytes"
	"math/rand"
	"regexp"
	"slices"
	"strconv"
	"strings"
	"testing"

	"prolepsis/parse"
	"prolepsis/utf"
)

// model tells events by the whole of what was fed: what is pending of a sequence is held against expressions, and scalars are told chunk by chunk.
type model struct {
	pending string
	chunk   []byte
	l       []Event
}

var (
	whole      = regexp.MustCompile(`^\x1b\[([0-9;]*)([@-~])$`)
	passedOver = regexp.MustCompile(`^\x1b\[[ -?]*[@-~]$`)
	unended    = regexp.MustCompile(`^\x1b(\[[ -?]*|[ -/]*)$`)
)

// feed: a byte more.
func (m *model) feed(c byte) {
	switch {
	case c == 0x18 || c == 0x1a:
		m.cut()
		m.l = append(m.l, controlled(rune(c)))
		m.pending = ""
	case c == 0x1b:
		m.cut()
		m.pending = "\x1b"
	case c < 0x20 || c == 0x7f:
		m.cut()
		m.l = append(m.l, controlled(rune(c)))
	case c >= 0x80 || m.pending == "":
		m.pending = ""
		m.chunk = append(m.chunk, c)
	default:
		m.pending += string(rune(c))
		m.match()
	}
}

// match: what is pending is a sequence, or something else, or goes on.
func (m *model) match() {
	if x := whole.FindStringSubmatch(m.pending); x != nil {
		m.cut()
		m.l = append(m.l, sequence(rune(x[2][0]), values(x[1])...))
		m.pending = ""
	} else if passedOver.MatchString(m.pending) || !unended.MatchString(m.pending) {
		m.pending = ""
	}
}

// values: the numbers of a text between [ and a final byte.
func values(s string) []int {
	if s == "" {
		return nil
	}
	var l []int
	for i, x := range strings.Split(s, ";") {
		if i == 8 {
			break
		}
		if x == "" {
			l = append(l, -1)
			continue
		}
		n, err := strconv.Atoi(x)
		if err != nil || n > 9999 {
			n = 9999
		}
		l = append(l, n)
	}
	return l
}

// cut: a chunk ends, and a beginning at its end is broken.
func (m *model) cut() {
	for _, r := range utf.Runes(m.chunk) {
		m.l = append(m.l, printed(r))
	}
	m.chunk = nil
}

// rest: nothing is pending, and the chunk ends with a scalar's last byte.
func (m *model) rest() bool {
	var s utf.Stream
	s.Feed(m.chunk...)
	return m.pending == "" && len(s.Held()) == 0
}

// modelled: what bytes tell, with Flush behind them, and whether a parser is at rest ahead of Flush.
func modelled(b []byte) ([]Event, bool) {
	var m model
	for _, c := range b {
		m.feed(c)
	}
	rest := m.rest()
	m.cut()
	return m.l, rest
}

// The states, each with bytes that lead a fresh parser to it and tell nothing.
var states = []struct{ name, way string }{
	{"Ground", ""},
	{"Escape", "\x1b"},
	{"Between", "\x1b("},
	{"Numbers", "\x1b[4"},
	{"Idle", "\x1b[4?"},
}

// at: a parser in a state.
func at(t *testing.T, state int) *parse.Parser {
	t.Helper()
	p := new(parse.Parser)
	if l := p.Feed([]byte(states[state].way)...); len(l) != 0 {
		t.Fatalf("the way to %s tells %v", states[state].name, l)
	}
	return p
}

// stateOf: a parser's state, by what copies of it tell.
func stateOf(t *testing.T, p *parse.Parser) int {
	t.Helper()
	bracket := p.Copy().Feed('[', '7', 'A')
	semicolon := p.Copy().Feed(';', 'A')
	switch {
	case equal(bracket, prints("[7A")) && equal(semicolon, prints(";A")):
		return 0
	case equal(bracket, events(sequence('A', 7))) && equal(semicolon, prints("A")):
		return 1
	case equal(bracket, prints("7A")) && equal(semicolon, prints("A")):
		return 2
	case equal(bracket, prints("7A")) && len(semicolon) == 0:
		return 4
	case len(bracket) == 3 && bracket[0].Kind == 3 && bracket[0].R == '[' && len(semicolon) == 1 && semicolon[0].Kind == 3:
		return 3
	}
	t.Fatalf("no state: %v %v", bracket, semicolon)
	return -1
}

// in: is a byte in a range?
func in(c byte, first, last byte) bool { return first <= c && c <= last }

// step: what a byte does in a state, as the chapter's list has it.
func step(state int, c byte) ([]Event, int) {
	switch {
	case c == 0x18 || c == 0x1a:
		return events(controlled(rune(c))), 0
	case c == 0x1b:
		return nil, 1
	case c < 0x20 || c == 0x7f:
		return events(controlled(rune(c))), state
	case in(c, 0xc2, 0xf4):
		return nil, 0
	case c >= 0x80:
		return events(broken), 0
	case state == 0:
		return events(printed(rune(c))), 0
	case state == 1 && c == '[':
		return nil, 3
	case (state == 1 || state == 2) && in(c, 0x20, 0x2f):
		return nil, 2
	case state == 1 || state == 2:
		return nil, 0
	case state == 3 && in(c, '0', '9'), state == 3 && c == ';':
		return nil, 3
	case state == 3 && in(c, 0x40, 0x7e):
		return events(sequence(rune(c), 4)), 0
	case state == 4 && in(c, 0x40, 0x7e):
		return nil, 0
	}
	return nil, 4
}

// P8.1: Feed

func TestEveryByteInEachState(t *testing.T) {
	for state := range states {
		if p := at(t, state); stateOf(t, p) != state {
			t.Fatalf("%s is told as %s", states[state].name, states[stateOf(t, p)].name)
		}
		for n := range 256 {
			c := byte(n)
			p := at(t, state)
			l := p.Feed(c)
			want, next := step(state, c)
			if !equal(l, want) {
				t.Errorf("%s, % x: %v, not %v", states[state].name, c, l, want)
			}
			held := in(c, 0xc2, 0xf4)
			if p.Rest() != (next == 0 && !held) {
				t.Errorf("%s, % x: Rest() is %v", states[state].name, c, p.Rest())
			}
			p = at(t, state)
			p.Feed(c)
			if held {
				if l := p.Copy().Flush(); !equal(l, events(broken)) {
					t.Errorf("%s, % x: %v is held", states[state].name, c, l)
				}
				p.Feed(0x0d)
			}
			if s := stateOf(t, p); s != next {
				t.Errorf("%s, % x: then it is %s, not %s", states[state].name, c, states[s].name, states[next].name)
			}
		}
	}
}

// Each byte behind each beginning: what is held is broken, unless the byte goes on with it.
func TestEveryByteBehindHeldOnes(t *testing.T) {
	for _, held := range []string{"\xc3", "\xe3", "\xe3\x81", "\xf0", "\xf0\x9f", "\xf0\x9f\x98"} {
		for n := range 256 {
			c := byte(n)
			var p parse.Parser
			if l := p.Feed([]byte(held)...); len(l) != 0 || p.Rest() {
				t.Fatalf("% x: %v, Rest() is %v", held, l, p.Rest())
			}
			l := p.Feed(c)
			want, next := step(0, c)
			want = behind(events(broken), want...)
			if c >= 0x80 {
				var s utf.Stream
				want = nil
				for _, r := range s.Feed(append([]byte(held), c)...) {
					want = append(want, printed(r))
				}
			}
			if !equal(l, want) {
				t.Errorf("% x, % x: %v, not %v", held, c, l, want)
			}
			if c < 0x80 && stateOf(t, &p) != next {
				t.Errorf("% x, % x: then it is %s", held, c, states[stateOf(t, &p)].name)
			}
		}
	}
}

func TestFeed(t *testing.T) {
	type fed struct {
		b    string
		l    []Event
		rest bool
	}
	for i, steps := range [][]fed{
		{{"", nil, true}, {"a\r", events(printed('a'), controlled(13)), true}, {"", nil, true}},
		{{"\x1b", nil, false}, {"", nil, false}, {"[", nil, false}, {"5", nil, false}, {"A", events(sequence('A', 5)), true}},
		{{"\x1b[5A\xc3", events(sequence('A', 5)), false}, {"", nil, false}, {"\xa9", events(printed(0xe9)), true}},
		{{"\xf0\x9f", nil, false}, {"\x98", nil, false}, {"\x80\xf0", events(printed(0x1f600)), false}, {"\r", events(broken, controlled(13)), true}},
		{{"\x1b[9", nil, false}, {"9", nil, false}, {"9", nil, false}, {"9", nil, false}, {"9", nil, false}, {"m", events(sequence('m', 9999)), true}},
		{{"\x1b[;", nil, false}, {"1", nil, false}, {"2;", nil, false}, {"\n", events(controlled(10)), false}, {"m", events(sequence('m', -1, 12, -1)), true}},
		{{"\x1b[1;2;3;4", nil, false}, {";5;6;7;8", nil, false}, {"1;", nil, false}, {"9", nil, false}, {";3m", events(sequence('m', 1, 2, 3, 4, 5, 6, 7, 81)), true}},
		{{"\x1b[?", nil, false}, {"25", nil, false}, {"h", nil, true}, {"h", events(printed('h')), true}},
		{{"\x1b(", nil, false}, {"(", nil, false}, {"B", nil, true}, {"B", events(printed('B')), true}},
		{{"\x1b[3\xc3", nil, false}, {"m", events(broken, printed('m')), true}},
		{{"\x1b[3", nil, false}, {"\x1b", nil, false}, {"[m", events(sequence('m')), true}},
		{{"\xc3", nil, false}, {"\x1b", events(broken), false}, {"[m", events(sequence('m')), true}},
		{{"\x1b\r", events(controlled(13)), false}, {"[m", events(sequence('m')), true}},
	} {
		var p parse.Parser
		for _, x := range steps {
			if l := p.Feed([]byte(x.b)...); !equal(l, x.l) {
				t.Errorf("%d: Feed(%q): %v, not %v", i, x.b, l, x.l)
			}
			if p.Rest() != x.rest {
				t.Errorf("%d: behind %q Rest() is %v", i, x.b, p.Rest())
			}
		}
	}
}

func TestFeedOfNothing(t *testing.T) {
	for state := range states {
		p := at(t, state)
		if l := p.Feed(); len(l) != 0 {
			t.Errorf("%s, no bytes: %v", states[state].name, l)
		}
		if l := p.Feed(nil...); len(l) != 0 {
			t.Errorf("%s, nil: %v", states[state].name, l)
		}
		if l := p.Feed([]byte{}...); len(l) != 0 {
			t.Errorf("%s, an empty list: %v", states[state].name, l)
		}
		if stateOf(t, p) != state {
			t.Errorf("%s is %s, behind nothing", states[state].name, states[stateOf(t, p)].name)
		}
	}
	var p parse.Parser
	p.Feed(0xe3, 0x81)
	p.Feed()
	if l := p.Feed(0x82); !equal(l, prints("\u3042")) {
		t.Errorf("behind no bytes amid a scalar: %v", l)
	}
}

// P8.1: Rest and Flush

func TestRest(t *testing.T) {
	for b, want := range map[string]bool{
		"": true, "a": true, "a\r": true, "\u00e9": true, "\x80": true, "\x7f": true, "\x18": true,
		"\x1b": false, "\x1b(": false, "\x1b[": false, "\x1b[1": false, "\x1b[1;": false, "\x1b[?": false,
		"\x1b\r": false, "\x1b[1\r": false, "\x1b[?\r": false, "\x1b(\r": false,
		"\xc3": false, "\xe3\x81": false, "\xf0\x9f\x98": false, "a\xc3": false, "\x1b[1\xc3": false,
		"\x1bc": true, "\x1b(B": true, "\x1b[m": true, "\x1b[?h": true, "\x1b[1\x18": true, "\x1b[1\xff": true, "\xc3\r": true, "\xc3\x1b": false,
	} {
		var p parse.Parser
		p.Feed([]byte(b)...)
		if p.Rest() != want || p.Rest() != want {
			t.Errorf("behind %q Rest() is %v", b, p.Rest())
		}
	}
}

func TestFlush(t *testing.T) {
	for state := range states {
		p := at(t, state)
		for range 2 {
			if l := p.Flush(); len(l) != 0 || !p.Rest() || stateOf(t, p) != 0 {
				t.Errorf("%s: Flush() is %v, then Rest() is %v, the state %d", states[state].name, l, p.Rest(), stateOf(t, p))
			}
		}
		if l := p.Feed('5', 'A'); !equal(l, prints("5A")) {
			t.Errorf("%s: behind Flush %v", states[state].name, l)
		}
		for _, held := range []string{"\xc3", "\xe3", "\xe3\x81", "\xf0", "\xf0\x9f", "\xf0\x9f\x98"} {
			p := at(t, state)
			p.Feed([]byte(held)...)
			if l := p.Flush(); !equal(l, events(broken)) || !p.Rest() {
				t.Errorf("%s, % x: Flush() is %v, then Rest() is %v", states[state].name, held, l, p.Rest())
			}
			if l := p.Flush(); len(l) != 0 || !p.Rest() {
				t.Errorf("%s, % x: Flush() once more is %v", states[state].name, held, l)
			}
			if l := p.Feed(0x81, 'A'); !equal(l, events(broken, printed('A'))) {
				t.Errorf("%s, % x: behind Flush %v", states[state].name, held, l)
			}
		}
	}
}

// Numbers that were begun ahead of Flush aren't those of the next sequence.
func TestNumbersEndWithFlush(t *testing.T) {
	var p parse.Parser
	p.Feed([]byte("\x1b[1;2;3")...)
	p.Flush()
	if l := p.Feed([]byte("\x1b[m\x1b[;m")...); !equal(l, events(sequence('m'), sequence('m', -1, -1))) {
		t.Errorf("behind Flush: %v", l)
	}
}

func TestZeroParser(t *testing.T) {
	var p parse.Parser
	if !p.Rest() || len(p.Flush()) != 0 || len(p.Feed()) != 0 || !p.Rest() {
		t.Error("the zero parser isn't a fresh one")
	}
	if l := new(parse.Parser).Feed([]byte("a\x1b[m")...); !equal(l, events(printed('a'), sequence('m'))) {
		t.Errorf("a new parser: %v", l)
	}
	if c := new(parse.Parser).Copy(); c == nil || !c.Rest() || stateOf(t, c) != 0 {
		t.Error("the copy of a new parser isn't a fresh one")
	}
}

// P8.1: Copy

// Both parsers of a copy go on by themselves, whichever is fed first.
func TestCopy(t *testing.T) {
	for _, x := range []struct {
		b, one, two string
		l, m        []Event
	}{
		{"", "a", "\r", prints("a"), events(controlled(13))},
		{"\xe3\x81", "\x82", "\x83", prints("\u3042"), prints("\u3043")},
		{"\xe3\x81", "\x82", "x", prints("\u3042"), events(broken, printed('x'))},
		{"\xf0\x9f\x98", "\x1b[m", "\x80", events(broken, sequence('m')), prints("\U0001f600")},
		{"\x1b", "[m", "c", events(sequence('m')), nil},
		{"\x1b[1;2", "3;4m", "m", events(sequence('m', 1, 23, 4)), events(sequence('m', 1, 2))},
		{"\x1b[1;2", ";;5H", "78H", events(sequence('H', 1, 2, -1, 5)), events(sequence('H', 1, 278))},
		{"\x1b[1;2;3;4;5;6;7;8", "1m", "2m", events(sequence('m', 1, 2, 3, 4, 5, 6, 7, 81)), events(sequence('m', 1, 2, 3, 4, 5, 6, 7, 82))},
		{"\x1b[1", "\x1b[2m", "m", events(sequence('m', 2)), events(sequence('m', 1))},
		{"\x1b[?", "hx", "1x1", prints("x"), prints("1")},
		{"\x1b(", "Bx", "((x1", prints("x"), prints("1")},
	} {
		for _, copyFirst := range []bool{false, true} {
			p := new(parse.Parser)
			p.Feed([]byte(x.b)...)
			c := p.Copy()
			if c == nil || c == p || c.Rest() != p.Rest() {
				t.Fatalf("the copy behind %q", x.b)
			}
			if copyFirst {
				p, c = c, p
			}
			var l, m []Event
			for i := range max(len(x.one), len(x.two)) {
				if i < len(x.one) {
					l = append(l, p.Feed(x.one[i])...)
				}
				if i < len(x.two) {
					m = append(m, c.Feed(x.two[i])...)
				}
			}
			if !equal(l, x.l) || !equal(m, x.m) {
				t.Errorf("behind %q: %v and %v, not %v and %v", x.b, l, m, x.l, x.m)
			}
		}
	}
}

func TestCopyStandsWhenTheOtherIsFlushed(t *testing.T) {
	for _, x := range []struct {
		b, on string
		l     []Event
	}{
		{"\xe3\x81", "\x82", prints("\u3042")},
		{"\x1b[1;2", "m", events(sequence('m', 1, 2))},
		{"\x1b[?1", "hx", prints("x")},
	} {
		for _, copyFirst := range []bool{false, true} {
			p := new(parse.Parser)
			p.Feed([]byte(x.b)...)
			c := p.Copy()
			if copyFirst {
				p, c = c, p
			}
			p.Flush()
			p.Feed([]byte("\x1b[7;8;9")...)
			if c.Rest() {
				t.Errorf("behind %q: the other one is at rest", x.b)
			}
			if l := c.Feed([]byte(x.on)...); !equal(l, x.l) {
				t.Errorf("behind %q: %v, not %v", x.b, l, x.l)
			}
		}
	}
}

// P8.3: however bytes are cut

// cutUp: what a parser tells of parts, with Flush behind them.
func cutUp(parts ...[]byte) []Event {
	var p parse.Parser
	var l []Event
	for _, x := range parts {
		l = append(l, p.Feed(x...)...)
	}
	return append(l, p.Flush()...)
}

func TestCutAtEachPlace(t *testing.T) {
	for _, x := range byHand() {
		b := []byte(x.b)
		for i := range len(b) + 1 {
			for j := i; j <= len(b); j++ {
				if l := cutUp(b[:i], b[i:j], b[j:]); !equal(l, x.l) {
					t.Errorf("%q, cut at %d and %d: %v, not %v", x.b, i, j, l, x.l)
				}
			}
		}
		var single [][]byte
		for i := range b {
			single = append(single, b[i:i+1], nil)
		}
		if l := cutUp(single...); !equal(l, x.l) {
			t.Errorf("%q, one by one: %v, not %v", x.b, l, x.l)
		}
	}
}

// checkBytes holds what bytes tell, at once, one by one and through copies, against the model.
func checkBytes(t *testing.T, b []byte) {
	t.Helper()
	want, rest := modelled(b)
	if l := parse.All(b); !equal(l, want) || !parse.Same(l, want) {
		t.Fatalf("All(%q): %v, not %v", b, l, want)
	}
	p := new(parse.Parser)
	var l []Event
	for _, c := range b {
		was := p
		p = p.Copy()
		was.Flush()
		l = append(l, p.Feed(c)...)
	}
	if p.Rest() != rest {
		t.Fatalf("behind %q Rest() is %v", b, p.Rest())
	}
	if l = append(l, p.Flush()...); !equal(l, want) || !p.Rest() {
		t.Fatalf("%q, one by one: %v, not %v; Rest() is %v", b, l, want, p.Rest())
	}
	checkEvents(t, b, l)
}

// checkEvents: each event is one that the chapter's words allow.
func checkEvents(t *testing.T, b []byte, l []Event) {
	t.Helper()
	for _, e := range l {
		ok := false
		switch e.Kind {
		case parse.Print:
			ok = utf.Scalar(e.R) && e.R >= 0x20 && e.R != 0x7f && len(e.N) == 0
		case parse.Control:
			ok = (e.R >= 0 && e.R < 0x20 && e.R != 0x1b || e.R == 0x7f) && len(e.N) == 0
		case parse.Sequence:
			ok = e.R >= 0x40 && e.R <= 0x7e && len(e.N) <= 8
			for _, n := range e.N {
				ok = ok && n >= -1 && n <= 9999
			}
		}
		if !ok {
			t.Fatalf("%q tells %v", b, e)
		}
	}
}

// alphabet: a byte of each sort that the chapter tells apart.
var alphabet = []byte("\x00\x18\x1a\x1b\x1f /09:;?@[A~\x7f\x81\xc3\xe3\xf0\xff")

func TestAllShortTexts(t *testing.T) {
	var fill func(b []byte, left int)
	fill = func(b []byte, left int) {
		checkBytes(t, b)
		if left == 0 {
			return
		}
		for _, c := range alphabet {
			fill(append(b, c), left-1)
		}
	}
	fill(make([]byte, 0, 8), 3)
	for _, way := range states[1:] {
		fill(append(make([]byte, 0, 16), way.way...), 3)
	}
}

func TestRandomBytes(t *testing.T) {
	r := rand.New(rand.NewSource(8))
	for range 20000 {
		b := make([]byte, r.Intn(40))
		for i := range b {
			switch r.Intn(8) {
			case 0:
				b[i] = byte(r.Intn(256))
			case 1, 2, 3:
				b[i] = "\x1b[0123456789;;;;mHA"[r.Intn(19)]
			default:
				b[i] = alphabet[r.Intn(len(alphabet))]
			}
		}
		checkBytes(t, b)
		i := r.Intn(len(b) + 1)
		j := i + r.Intn(len(b)-i+1)
		if l, want := cutUp(b[:i], b[i:j], b[j:]), parse.All(b); !equal(l, want) {
			t.Fatalf("%q, cut at %d and %d: %v, not %v", b, i, j, l, want)
		}
	}
}

// Sequences of many numbers, held against the model.
func TestRandomNumbers(t *testing.T) {
	r := rand.New(rand.NewSource(9))
	for range 20000 {
		b := []byte("\x1b[")
		for range r.Intn(14) {
			for range r.Intn(6) {
				b = append(b, byte('0'+r.Intn(10)))
			}
			if r.Intn(6) > 0 {
				b = append(b, ';')
			}
			if r.Intn(20) == 0 {
				b = append(b, '\n')
			}
		}
		checkBytes(t, append(b, byte(0x40+r.Intn(0x3f))))
	}
}

func TestManyBytes(t *testing.T) {
	b := bytes.Repeat([]byte("\x1b[1;22;333;4444;55555m\u3042\r\x1b[?7h"), 2000)
	l := parse.All(b)
	if len(l) != 3*2000 {
		t.Fatalf("%d events", len(l))
	}
	for i := 0; i < len(l); i += 3 {
		if !equal(l[i:i+3], events(sequence('m', 1, 22, 333, 4444, 9999), printed(0x3042), controlled(13))) {
			t.Fatalf("%d: %v", i, l[i:i+3])
		}
	}
	digits := append([]byte("\x1b["), bytes.Repeat([]byte("9"), 100000)...)
	if l := parse.All(append(digits, 'm')); !equal(l, events(sequence('m', 9999))) {
		t.Errorf("many digits: %v", l)
	}
	ends := append([]byte("\x1b[3"), bytes.Repeat([]byte(";"), 100000)...)
	if l := parse.All(append(ends, "4m"...)); !equal(l, events(sequence('m', 3, -1, -1, -1, -1, -1, -1, -1))) {
		t.Errorf("many numbers: %v", l)
	}
}

// P8.3: a nil parser

func TestNilParser(t *testing.T) {
	var p *parse.Parser
	for _, x := range byHand() {
		if l := p.Feed([]byte(x.b)...); len(l) != 0 {
			t.Errorf("a nil parser's Feed(%q): %v", x.b, l)
		}
	}
	if l := p.Feed(); len(l) != 0 {
		t.Errorf("a nil parser's Feed of nothing: %v", l)
	}
	if p.Rest() {
		t.Error("a nil parser is at rest")
	}
	if l := p.Flush(); len(l) != 0 {
		t.Errorf("a nil parser's Flush: %v", l)
	}
	if c := p.Copy(); c != nil {
		t.Error("a nil parser's copy isn't nil")
	}
}

// Of the whole: P2, and the rule of memory

// What was told stays as it was, and what becomes of it isn't seen by the parser.
func TestWhatWasToldStays(t *testing.T) {
	var p parse.Parser
	one := p.Feed([]byte("\x1b[1;2m\x1b[3;4")...)
	two := p.Feed([]byte(";5m\x1b[6;7;8;9H")...)
	p.Feed([]byte("\x1b[66;77;88;99")...)
	if !equal(one, events(sequence('m', 1, 2))) || !equal(two, events(sequence('m', 3, 4, 5), sequence('H', 6, 7, 8, 9))) {
		t.Errorf("what was told has changed: %v %v", one, two)
	}
	for _, l := range [][]Event{one, two} {
		for _, e := range l {
			n := e.N[:cap(e.N)]
			for i := range n {
				n[i] = 5555
			}
		}
		clear(l[:cap(l)])
	}
	if l := p.Feed('m'); !equal(l, events(sequence('m', 66, 77, 88, 99))) {
		t.Errorf("the parser's numbers were changed from outside: %v", l)
	}
}

func TestFeedKeepsItsOwn(t *testing.T) {
	var p parse.Parser
	b := append(make([]byte, 0, 16), "\x1b[1m\xf0\x9f\x98"...)
	was := slices.Clone(b[:cap(b)])
	p.Feed(b...)
	if !bytes.Equal(b[:cap(b)], was) {
		t.Errorf("Feed changed its bytes: % x", b[:cap(b)])
	}
	clear(b[:cap(b)])
	if l := p.Feed(0x80); !equal(l, prints("\U0001f600")) {
		t.Errorf("what is held was changed from outside: %v", l)
	}
}

func TestParsersAreApart(t *testing.T) {
	var a, b parse.Parser
	a.Feed([]byte("\x1b[1;2")...)
	b.Feed([]byte("\x1b[3\xc3")...)
	if l := a.Feed('m'); !equal(l, events(sequence('m', 1, 2))) {
		t.Errorf("one parser: %v", l)
	}
	if l := b.Feed(0xa9); !equal(l, prints("\u00e9")) {
		t.Errorf("the other one: %v", l)
	}
}

func FuzzParser(f *testing.F) {
	for _, x := range byHand() {
		f.Add([]byte(x.b), uint8(1), uint8(2))
	}
	f.Fuzz(func(t *testing.T, b []byte, i, j uint8) {
		checkBytes(t, b)
		var parts [][]byte
		rest := b
		for k := 0; len(rest) > 0; k++ {
			n := min(len(rest), 1+int([]uint8{i, j}[k%2]))
			parts = append(parts, rest[:n])
			rest = rest[n:]
		}
		if l, want := cutUp(parts...), parse.All(b); !equal(l, want) {
			t.Errorf("%q, cut by %d and %d: %v, not %v", b, i, j, l, want)
		}
	})
}
