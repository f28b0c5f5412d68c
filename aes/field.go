package aes

import "math/bits"

// folded is what x^8 stands for: x^4 + x^3 + x + 1.
const folded = 1<<4 | 1<<3 | 1<<1 | 1<<0

// twice: x times b.
func twice(b byte) byte { return b<<1 ^ (b>>7)*folded }

// power: x^n.
func power(n int) byte {
	b := byte(1)
	for range n {
		b = twice(b)
	}
	return b
}

// makeS: of each byte its S. The powers of x + 1 are all bytes but 0, and (x + 1)^255 is 1: so the inverse of the power i is the power 255 - i, and none has to be looked for.
func makeS() [256]byte {
	var powers [256]byte
	b := byte(1)
	for i := range len(powers) {
		powers[i] = b
		b ^= twice(b)
	}
	var s [256]byte
	s[0] = sOfInverse(0)
	for i := range 255 {
		s[powers[i]] = sOfInverse(powers[255-i])
	}
	return s
}

// sOfInverse: the S of the byte whose inverse is y.
func sOfInverse(y byte) byte {
	s := y ^ 0x63
	for n := 1; n <= 4; n++ {
		s ^= bits.RotateLeft8(y, n)
	}
	return s
}
