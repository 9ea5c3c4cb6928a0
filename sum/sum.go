// Package sum computes the checksum that the head of a block stores. Its chapter: shared/doc/01-sum.md.
package sum

// The CRC-32 polynomial, bit-reversed because the register is shifted towards its low end.
const polynomial = 0xedb88320

// Sum returns the checksum of the bytes of b.
func Sum(b []byte) uint32 { return Add(0, b) }

// Text returns the checksum of the bytes of s.
func Text(s string) uint32 { return Add(0, []byte(s)) }

// Add returns the checksum of x followed by b, where c is the checksum of x.
func Add(c uint32, b []byte) uint32 {
	// A checksum is the complement of the register; the complement of the checksum of nothing is the register's start.
	return ^fold(^c, b)
}

// fold takes the bytes of b into the register c.
func fold(c uint32, b []byte) uint32 {
nextByte:
	for _, x := range b {
		c ^= uint32(x)
		for range 8 {
			if c == 0 {
				// Zero halves to zero, so the steps that remain for this byte change nothing.
				continue nextByte
			}
			c = halve(c)
		}
	}
	return c
}

// halve is one of the eight steps for a byte.
func halve(c uint32) uint32 {
	if c%2 == 0 {
		return c / 2
	}
	return c/2 ^ polynomial
}
