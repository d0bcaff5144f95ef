package parse

import (
	"slices"

	"prolepsis/api"
	"prolepsis/utf"
)

// The bytes, and the ends of ranges of bytes, that a parser tells apart.
const (
	cancel       = 0x18
	substitute   = 0x1a
	escapeByte   = 0x1b
	firstBetween = 0x20
	lastBetween  = 0x2f
	firstFinal   = 0x40
	lastFinal    = 0x7e
	deleteByte   = 0x7f
	firstHigh    = 0x80
)

// state: what the next byte belongs to.
type state int

// The first one is the zero parser's.
const (
	ground state = iota
	escape
	between
	numbers
	idle
)

// Parser takes a host's bytes.
type Parser struct {
	stream
	args
	state state
}

// teller hands an event on.
type teller func(kind int, r rune, n ...int)

// onto: one that puts events behind those of a list.
func onto(l *[]Event) teller {
	return func(kind int, r rune, n ...int) {
		*l = append(*l, Event{Kind: kind, R: r, N: n})
	}
}

// Feed: the events that bytes tell.
func (p *Parser) Feed(b ...byte) []Event {
	if p == nil {
		return nil
	}
	var l []Event
	tell := onto(&l)
bytes:
	for _, c := range b {
		next := ground
		switch {
		case c == cancel, c == substitute:
			p.end(tell)
			tell(Control, rune(c))
		case c == escapeByte:
			p.end(tell)
			p.none()
			next = escape
		case c < firstBetween, c == deleteByte:
			p.end(tell)
			tell(Control, rune(c))
			continue bytes
		case c >= firstHigh, p.state == ground:
			p.take(c, tell)
		case p.state == escape:
			next = behindEscape(c)
		case p.state == between:
			next = behindBetween(c)
		case p.state == numbers:
			next = p.number(c, tell)
		case !final(c):
			continue bytes
		}
		p.state = next
	}
	return l
}

// Rest: is it at rest?
func (p *Parser) Rest() bool {
	return p != nil && p.state == ground && !p.holds()
}

// Flush: what is held is told.
func (p *Parser) Flush() []Event {
	if p == nil {
		return nil
	}
	var l []Event
	p.end(onto(&l))
	p.state = ground
	return l
}

// Copy: a parser that stands as this one does.
func (p *Parser) Copy() *Parser {
	if p == nil {
		return nil
	}
	// No field points to anything, so that the struct's copy shares nothing.
	c := *p
	return &c
}

// number: what a byte does to the numbers, and the state behind it.
func (p *Parser) number(c byte, tell teller) state {
	switch {
	case c >= '0' && c <= '9':
		p.digit(int(c - '0'))
	case c == ';':
		p.split()
	case final(c):
		tell(Sequence, rune(c), p.told()...)
		return ground
	default:
		return idle
	}
	return numbers
}

// behindEscape: the state behind a byte in Escape.
func behindEscape(c byte) state {
	if c == '[' {
		return numbers
	}
	return behindBetween(c)
}

// behindBetween: the state behind a byte in Between.
func behindBetween(c byte) state {
	if c >= firstBetween && c <= lastBetween {
		return between
	}
	return ground
}

// final: does a byte end a sequence?
func final(c byte) bool {
	return c >= firstFinal && c <= lastFinal
}

// stream is utf's, by calls that stay within: utf's own would be a parser's as well, and a nil parser's would panic.
type stream struct{ scalars utf.Stream }

// take: what a byte tells.
func (s *stream) take(c byte, tell teller) {
	for _, r := range s.scalars.Feed(c) {
		tell(Print, r)
	}
}

// end: what is held is told.
func (s *stream) end(tell teller) {
	for _, r := range s.scalars.Flush() {
		tell(Print, r)
	}
}

// holds: are bytes held?
func (s *stream) holds() bool {
	return len(s.scalars.Held()) > 0
}

// args are a sequence's numbers.
type args struct {
	// One place more than are told: all numbers beyond these stand in it, one in place of the other.
	list [api.MaxArgs + 1]int
	n    int
}

// none: there are no numbers any more.
func (a *args) none() { a.n = 0 }

// begin: another number.
func (a *args) begin() {
	a.n = min(a.n+1, len(a.list))
	a.list[a.n-1] = without
}

// digit: one more of the last number's.
func (a *args) digit(d int) {
	if a.n == 0 {
		a.begin()
	}
	last := max(a.list[a.n-1], 0)
	a.list[a.n-1] = min(10*last+d, api.MaxValue)
}

// split: the last number has ended, even if it had not begun.
func (a *args) split() {
	if a.n == 0 {
		a.begin()
	}
	a.begin()
}

// told: the numbers that an event has.
func (a *args) told() []int {
	return slices.Clone(a.list[:min(a.n, api.MaxArgs)])
}
