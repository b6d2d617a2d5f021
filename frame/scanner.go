package frame

import (
	"fairlink/api"
	"fairlink/linecode"
)

// Scanner finds packets in a stream of symbols.
type Scanner struct {
	inside  bool   // a packet has begun and has not ended
	symbols []byte // the data symbols of this packet
	bad     int    // packets that were discarded
}

// New returns a scanner that is outside of packets.
func New() *Scanner {
	// The symbol that makes a packet too long is added before it is discarded.
	return &Scanner{symbols: make([]byte, 0, MaxSymbols+1)}
}

// Push gives the scanner a symbol, and returns the packet that ends with it, if there is one.
func (s *Scanner) Push(symbol byte) (api.Packet, bool) {
	if s == nil {
		return api.Packet{}, false
	}
	value, control, e := linecode.Value(symbol)
	switch {
	case control && value == linecode.Start:
		s.begin()
	case !s.inside:
		// Up to the next Start there is nothing to be found or discarded.
	case control && value == linecode.Stop:
		return s.end()
	case e == api.OK && !control:
		s.add(symbol)
	default:
		s.discard()
	}
	return api.Packet{}, false
}

// Bad returns the number of packets that were discarded.
func (s *Scanner) Bad() int {
	if s == nil {
		return 0
	}
	return s.bad
}

func (s *Scanner) begin() {
	if s.inside {
		s.discard()
	}
	s.inside = true
}

func (s *Scanner) add(symbol byte) {
	s.symbols = append(s.symbols, symbol)
	if len(s.symbols) > MaxSymbols {
		s.discard()
	}
}

// end leaves the packet, and returns it if its data symbols are those of a valid one.
func (s *Scanner) end() (api.Packet, bool) {
	var p api.Packet
	b, _, e := linecode.Decode(s.symbols)
	if e == api.OK {
		p, e = Decode(b)
	}
	if e != api.OK {
		s.discard()
		return api.Packet{}, false
	}
	s.leave()
	return p, true
}

func (s *Scanner) discard() {
	s.bad++
	s.leave()
}

// leave ends a packet. The next one is collected in the same memory, which the
// packets that were found do not share.
func (s *Scanner) leave() {
	s.inside = false
	s.symbols = s.symbols[:0]
}
