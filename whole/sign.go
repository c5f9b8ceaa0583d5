package whole

// sign: its side is -1, 0 or 1: below 0, 0, above it.
type sign struct{ side int }

func (s sign) below() bool { return s.side < 0 }

func (s sign) opposite() sign { return sign{-s.side} }

func (s sign) times(other sign) sign { return sign{s.side * other.side} }

// against tells whether both are on different sides; 0 is against neither.
func (s sign) against(other sign) bool { return s.side*other.side < 0 }

// or is what both together have that aren't against each other.
func (s sign) or(other sign) sign {
	if s.side == 0 {
		return other
	}
	return s
}

// most is the greatest size of an int64 on this side: below 0 there is one more.
func (s sign) most() uint64 {
	if s.below() {
		return 1 << 63
	}
	return 1<<63 - 1
}
