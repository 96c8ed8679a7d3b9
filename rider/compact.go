package rider

import "spinet/bits"

const (
	groupBits = 7
	more      = 1 << groupBits // in each group's byte but the last one's
	most      = 5              // groups of 32 bits
)

// The bytes behind the size are 0, so that two of them are alike if and only
// if their groups are.
type compact struct {
	groups [most]byte
	size   int
}

func (c *compact) add(b byte) {
	c.groups[c.size] = b
	c.size++
}

// For an n of 32 bits alone: of others there may be more groups than the array
// has room for.
func compactOf(n int) compact {
	var c compact
	for !bits.Fits(n, groupBits) {
		c.add(byte(n) | more)
		n >>= groupBits
	}
	c.add(byte(n) &^ more)
	return c
}

func compactIn(s string) (c compact, whole bool) {
	for i := range min(len(s), most) {
		c.add(s[i])
		if s[i] < more {
			return c, true
		}
	}
	return compact{}, false
}

// Bit 6 of the last group, moved up, is the sign of a byte; its conversion to
// more bits lets it go on.
func (c compact) number() int {
	last := c.size - 1
	n := int32(int8(c.groups[last]<<1)) >> 1
	for i := last - 1; i >= 0; i-- {
		n = n<<groupBits | int32(c.groups[i]&^more)
	}
	return int(n)
}
