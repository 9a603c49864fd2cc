package module

// A number stands in groups of bits, one a byte.
const (
	groupBits = 7
	more      = 1 << groupBits // of a byte behind which another group comes
	groups    = 10             // so many have 64 bits, the last one a single one of them
)

// folded is the number without a sign as which a number is told.
func folded(n int64) uint64 {
	if n < 0 {
		return ^(uint64(n) << 1)
	}
	return uint64(n) << 1
}

// unfolded is the number that is told so.
func unfolded(u uint64) int64 {
	if u%2 == 1 {
		return ^int64(u >> 1)
	}
	return int64(u >> 1)
}

// mayBe tells whether a byte may be a number's group at this place.
func mayBe(c byte, place int) bool {
	switch place {
	case 0:
		return true
	case groups - 1:
		// If any came behind it, the last one of them would make the number too great, since that one isn't 0.
		return c == 1
	}
	return c != 0
}

// appendNumber puts a number's groups behind bytes.
func appendNumber(b []byte, n int64) []byte {
	u := folded(n)
	for u >= more {
		b = append(b, more|byte(u%more))
		u >>= groupBits
	}
	return append(b, byte(u))
}
