package utf

import "slices"

// Stream takes bytes one by one.
type Stream struct {
	// Three are held between calls at most: the fourth is the room for the byte that is looked at.
	held [4]byte
	n    int
}

// Feed: the scalars that bytes tell.
func (s *Stream) Feed(b ...byte) []rune {
	if s == nil {
		return nil
	}
	var l []rune
	for _, c := range b {
		s.held[s.n] = c
		s.n++
		l = s.tell(l)
	}
	return l
}

// tell: the scalars, and behind them those that are told by what is held, which then goes.
func (s *Stream) tell(l []rune) []rune {
	for {
		r, n := First(s.held[:s.n])
		if n == 0 {
			return l
		}
		l = append(l, r)
		copy(s.held[:], s.held[n:s.n])
		s.n -= n
	}
}

// Held: the bytes that are held.
func (s *Stream) Held() []byte {
	if s == nil {
		return nil
	}
	return slices.Clone(s.held[:s.n])
}

// Flush: what is held is broken.
func (s *Stream) Flush() []rune {
	if s == nil || s.n == 0 {
		return nil
	}
	s.n = 0
	return []rune{Broken}
}
