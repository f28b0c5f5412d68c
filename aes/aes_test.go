package aes_test

import (
	"crypto/aes"
	"crypto/cipher"
	"encoding/binary"
	"encoding/hex"
	"math"
	"math/big"
	"testing"

	own "twain/aes"
	"twain/api"
)

const top = uint64(1) << 63

// noise tells the same words in each run.
type noise uint64

func (s *noise) word() uint64 {
	*s += 0x9e3779b97f4a7c15
	x := uint64(*s)
	x = (x ^ x>>30) * 0xbf58476d1ce4e5b9
	x = (x ^ x>>27) * 0x94d049bb133111eb
	return x ^ x>>31
}

func (s *noise) block() [16]byte {
	var b [16]byte
	binary.LittleEndian.PutUint64(b[:8], s.word())
	binary.LittleEndian.PutUint64(b[8:], s.word())
	return b
}

// byHex: 16 bytes, written out.
func byHex(t *testing.T, text string) [16]byte {
	t.Helper()
	l, err := hex.DecodeString(text)
	if err != nil || len(l) != 16 {
		t.Fatalf("%q is no block", text)
	}
	return [16]byte(l)
}

// library is Go's own AES, which the answers are held against.
func library(t *testing.T, key [16]byte) cipher.Block {
	t.Helper()
	c, err := aes.NewCipher(key[:])
	if err != nil {
		t.Fatal(err)
	}
	return c
}

func encrypted(c cipher.Block, block [16]byte) [16]byte {
	var out [16]byte
	c.Encrypt(out[:], block[:])
	return out
}

// blocks: none, all, each bit alone, each byte in all places, and some between them.
func blocks() [][16]byte {
	var l [][16]byte
	for i := range 128 {
		var b [16]byte
		b[i/8] = 1 << (i % 8)
		l = append(l, b)
	}
	for v := range 256 {
		var b [16]byte
		for i := range b {
			b[i] = byte(v)
		}
		l = append(l, b)
	}
	s := noise(1)
	for range 128 {
		l = append(l, s.block())
	}
	return l
}

// keys: fewer than the blocks, for each is held against all blocks.
func keys() [][16]byte {
	all := blocks()
	var l [][16]byte
	for i := 0; i < len(all); i += 7 {
		l = append(l, all[i])
	}
	return append(l, all[len(all)-1], fixedKey())
}

func fixedKey() [16]byte {
	return [16]byte{0, 1, 2, 3, 4, 5, 6, 7, 8, 9, 10, 11, 12, 13, 14, 15}
}

func TestExample(t *testing.T) {
	key, block := byHex(t, "000102030405060708090a0b0c0d0e0f"), byHex(t, "00112233445566778899aabbccddeeff")
	want := byHex(t, "69c4e0d86a7b0430d8cdb78070b4c55a")
	if got := own.New(key).Encrypt(block); got != want {
		t.Errorf("Encrypt: %x", got)
	}
	if got := own.Fixed().Encrypt(block); got != want {
		t.Errorf("Fixed: Encrypt: %x", got)
	}
}

// The blocks that FIPS 197 and SP 800-38A write out.
func TestPublishedBlocks(t *testing.T) {
	const key = "2b7e151628aed2a6abf7158809cf4f3c"
	for _, c := range [][3]string{
		{key, "3243f6a8885a308d313198a2e0370734", "3925841d02dc09fbdc118597196a0b32"},
		{key, "6bc1bee22e409f96e93d7e117393172a", "3ad77bb40d7a3660a89ecaf32466ef97"},
		{key, "ae2d8a571e03ac9c9eb76fac45af8e51", "f5d3d58503b9699de785895a96fdbaaf"},
		{key, "30c81c46a35ce411e5fbc1191a0a52ef", "43b1cd7f598ece23881b00e3ed030688"},
		{key, "f69f2445df4f9b17ad2b417be66c3710", "7b0c785e27e8ad3f8223207104725dd4"},
		{"00000000000000000000000000000000", "00000000000000000000000000000000", "66e94bd4ef8a2c3b884cfa59ca342b2e"},
	} {
		if got := own.New(byHex(t, c[0])).Encrypt(byHex(t, c[1])); got != byHex(t, c[2]) {
			t.Errorf("key %s, block %s: %x, want %s", c[0], c[1], got, c[2])
		}
	}
}

func TestEncrypt(t *testing.T) {
	for _, key := range keys() {
		c, lib := own.New(key), library(t, key)
		for _, b := range blocks() {
			if got, want := c.Encrypt(b), encrypted(lib, b); got != want {
				t.Fatalf("key %x, block %x: %x, want %x", key, b, got, want)
			}
		}
	}
}

// Each value in each byte of the key, and in each byte of the block.
func TestEncryptEachByte(t *testing.T) {
	s := noise(2)
	key, block := s.block(), s.block()
	c, lib := own.New(key), library(t, key)
	for i := range 16 {
		for v := range 256 {
			b, k := block, key
			b[i], k[i] = byte(v), byte(v)
			if got, want := c.Encrypt(b), encrypted(lib, b); got != want {
				t.Fatalf("block %x: %x, want %x", b, got, want)
			}
			if got, want := own.New(k).Encrypt(block), encrypted(library(t, k), block); got != want {
				t.Fatalf("key %x: %x, want %x", k, got, want)
			}
		}
	}
}

// numbers: words at which halves, bytes and signs change, and some between them.
func numbers() []uint64 {
	l := []uint64{0, 1, 2, 3, 4, 5, 255, 256, 510, 511, 512, 513, math.MaxUint64, math.MaxUint64 - 1, math.MaxUint64 - 2, top - 1, top, top + 1}
	for i := range 64 {
		l = append(l, 1<<i, 1<<i-1, 1<<i+1, -(uint64(1) << i))
	}
	s := noise(3)
	for range 64 {
		l = append(l, s.word())
	}
	return l
}

// streamWord works the word n out byte by byte, by the chapter's words.
func streamWord(lib cipher.Block, n uint64) uint64 {
	var b [16]byte
	half := n / 2
	for i := range 8 {
		b[i] = byte(half % 256)
		half /= 256
	}
	b = encrypted(lib, b)
	var w uint64
	for i := 7; i >= 0; i-- {
		w = w*256 + uint64(b[i+8*int(n%2)])
	}
	return w
}

func TestWord(t *testing.T) {
	for _, key := range keys() {
		c, lib := own.New(key), library(t, key)
		for _, n := range numbers() {
			if got, want := c.Word(n), streamWord(lib, n); got != want {
				t.Fatalf("key %x: Word(%d): %#x, want %#x", key, n, got, want)
			}
		}
	}
}

func TestWordByHand(t *testing.T) {
	c := own.New([16]byte{})
	for _, w := range []struct{ n, want uint64 }{{0, 0x3b2c8aefd44be966}, {1, 0x2e2b34ca59fa4c88}} {
		if got := c.Word(w.n); got != w.want {
			t.Errorf("Word(%d): %#x, want %#x", w.n, got, w.want)
		}
	}
	// The highest number's half fills its eight bytes but for the highest bit; the other eight stay 0.
	b := c.Encrypt(byHex(t, "ffffffffffffff7f0000000000000000"))
	if got, want := c.Word(math.MaxUint64), binary.LittleEndian.Uint64(b[8:]); got != want {
		t.Errorf("Word(2^64 - 1): %#x, want %#x", got, want)
	}
	if got, want := c.Word(math.MaxUint64-1), binary.LittleEndian.Uint64(b[:8]); got != want {
		t.Errorf("Word(2^64 - 2): %#x, want %#x", got, want)
	}
}

// The words of the blocks 0, 1, 2 .. are all of a stream's: none is told twice, none left out.
func TestWordsInOrder(t *testing.T) {
	c := own.Fixed()
	for i := range uint64(500) {
		var b [16]byte
		binary.LittleEndian.PutUint64(b[:8], i)
		b = c.Encrypt(b)
		if c.Word(2*i) != binary.LittleEndian.Uint64(b[:8]) || c.Word(2*i+1) != binary.LittleEndian.Uint64(b[8:]) {
			t.Fatalf("the words %d and %d aren't those of the block %d", 2*i, 2*i+1, i)
		}
	}
}

func TestFixed(t *testing.T) {
	fixed, lib := own.Fixed(), library(t, fixedKey())
	for _, b := range blocks() {
		if got, want := fixed.Encrypt(b), encrypted(lib, b); got != want {
			t.Fatalf("block %x: %x, want %x", b, got, want)
		}
	}
}

// labels: none, all, each bit alone, and some between them.
func labels() []api.Label {
	l := []api.Label{{}, {math.MaxUint64, math.MaxUint64}, {math.MaxUint64, 0}, {0, math.MaxUint64}, {top, top}, {1, top}, {135, 0}}
	for i := range 128 {
		var x api.Label
		x[i/64] = 1 << (i % 64)
		l = append(l, x)
	}
	s := noise(4)
	for range 32 {
		l = append(l, api.Label{s.word(), s.word()})
	}
	return l
}

// hashed works a Hash out over a whole number of 128 bits, whose bytes are told the highest first.
func hashed(lib cipher.Block, l api.Label, tweak uint64) api.Label {
	word := func(w uint64) *big.Int { return new(big.Int).SetUint64(w) }
	s := new(big.Int).Lsh(word(l[1]), 65)
	s.Add(s, new(big.Int).Lsh(word(l[0]), 1))
	if s.Bit(128) == 1 {
		s.SetBit(s, 128, 0)
		s.Xor(s, word(1+2+4+128))
	}
	s.Xor(s, word(tweak))
	var plain [16]byte
	s.FillBytes(plain[:])
	sealed := encrypted(lib, backwards(plain))
	h := backwards(sealed)
	for i := range h {
		h[i] ^= plain[i]
	}
	return api.Label{binary.BigEndian.Uint64(h[8:]), binary.BigEndian.Uint64(h[:8])}
}

func backwards(b [16]byte) [16]byte {
	for i := range 8 {
		b[i], b[15-i] = b[15-i], b[i]
	}
	return b
}

func TestHash(t *testing.T) {
	tweaks := []uint64{0, 1, 2, 134, 135, 136, top - 1, top, math.MaxUint64, 0x0123456789abcdef}
	for _, key := range append(keys()[:3], fixedKey()) {
		c, lib := own.New(key), library(t, key)
		for _, l := range labels() {
			for _, tweak := range tweaks {
				if got, want := c.Hash(l, tweak), hashed(lib, l, tweak); got != want {
					t.Fatalf("key %x: Hash(%#x, %d): %#x, want %#x", key, l, tweak, got, want)
				}
			}
		}
	}
}

func TestHashByHand(t *testing.T) {
	c := own.New([16]byte{})
	sealed := api.Label{0x3b2c8aefd44be966, 0x2e2b34ca59fa4c88} // of the block of zeros
	// Three ways to an s of 0: nothing at all, Double's folded bits and the tweak the same, Double and the tweak the same.
	for _, x := range []struct {
		l     api.Label
		tweak uint64
	}{{api.Label{}, 0}, {api.Label{0, top}, 135}, {api.Label{21, 0}, 42}} {
		if got := c.Hash(x.l, x.tweak); got != sealed {
			t.Errorf("Hash(%#x, %d): %#x, want %#x", x.l, x.tweak, got, sealed)
		}
	}
	// The tweak goes to the first word alone; a bit goes from the first word to the second by Double.
	b := c.Encrypt(byHex(t, "efcdab89674523010100000000000000"))
	want := api.Label{binary.LittleEndian.Uint64(b[:8]) ^ 0x0123456789abcdef, binary.LittleEndian.Uint64(b[8:]) ^ 1}
	if got := c.Hash(api.Label{top, 0}, 0x0123456789abcdef); got != want {
		t.Errorf("Hash: %#x, want %#x", got, want)
	}
}

// What is encrypted can be told back: so no two blocks have the same.
func TestEncryptKeepsApart(t *testing.T) {
	for _, key := range keys() {
		c, lib := own.New(key), library(t, key)
		seen := map[[16]byte][16]byte{}
		for _, b := range blocks() {
			e := c.Encrypt(b)
			if other, ok := seen[e]; ok && other != b {
				t.Fatalf("key %x: the blocks %x and %x have the same: %x", key, b, other, e)
			}
			seen[e] = b
			var back [16]byte
			lib.Decrypt(back[:], e[:])
			if back != b {
				t.Fatalf("key %x: %x was %x, and is told back as %x", key, e, b, back)
			}
		}
	}
}

func TestEncryptKeepsNeighboursApart(t *testing.T) {
	s := noise(5)
	for range 50 {
		c, b := own.New(s.block()), s.block()
		e := c.Encrypt(b)
		for i := range 128 {
			near := b
			near[i/8] ^= 1 << (i % 8)
			if c.Encrypt(near) == e {
				t.Fatalf("the blocks %x and %x have the same: %x", b, near, e)
			}
		}
	}
}

// Each block of two bytes, the others 0: all apart.
func TestEncryptKeepsManyApart(t *testing.T) {
	c := own.Fixed()
	seen := map[[16]byte]bool{}
	for i := range 1 << 16 {
		seen[c.Encrypt([16]byte{3: byte(i), 12: byte(i >> 8)})] = true
	}
	if len(seen) != 1<<16 {
		t.Errorf("%d blocks have %d encrypted ones", 1<<16, len(seen))
	}
}

func TestWhatIsHandedInStays(t *testing.T) {
	s := noise(6)
	key, block, label := s.block(), s.block(), api.Label{s.word(), s.word()}
	keyWas, blockWas, labelWas := key, block, label
	c := own.New(key)
	e, h := c.Encrypt(block), c.Hash(label, 5)
	c.Word(7)
	if key != keyWas || block != blockWas || label != labelWas {
		t.Error("what was handed in is changed")
	}
	key, block, label = [16]byte{}, [16]byte{}, api.Label{}
	if c.Encrypt(blockWas) != e || c.Hash(labelWas, 5) != h || e != encrypted(library(t, keyWas), blockWas) {
		t.Error("the cipher hangs on what was handed in")
	}
}

// One after the other, in whatever order: a call keeps nothing that another call's answer shows.
func TestCallsKeepNothing(t *testing.T) {
	s := noise(7)
	key := s.block()
	c := own.New(key)
	for range 3 {
		for _, b := range blocks()[:40] {
			l := api.Label{s.word(), s.word()}
			n := s.word()
			e, h, w := c.Encrypt(b), c.Hash(l, n), c.Word(n)
			anew := own.New(key)
			if w != anew.Word(n) || h != anew.Hash(l, n) || e != anew.Encrypt(b) {
				t.Fatalf("a cipher that was used answers otherwise than a new one: %x, %x, %d", b, l, n)
			}
		}
	}
}

func TestCiphersAreNewMemory(t *testing.T) {
	s := noise(8)
	key, other, block := s.block(), s.block(), s.block()
	one, two := own.New(key), own.New(key)
	fixed, again := own.Fixed(), own.Fixed()
	if one == two || fixed == again {
		t.Error("two answers are one cipher")
	}
	*one, *fixed = *own.New(other), *own.New(other)
	if two.Encrypt(block) != encrypted(library(t, key), block) {
		t.Error("two ciphers of New share memory")
	}
	want := encrypted(library(t, fixedKey()), block)
	if again.Encrypt(block) != want || own.Fixed().Encrypt(block) != want {
		t.Error("two ciphers of Fixed share memory")
	}
}

func BenchmarkEncrypt(b *testing.B) {
	c, block := own.Fixed(), [16]byte{}
	for b.Loop() {
		block = c.Encrypt(block)
	}
}

func BenchmarkNew(b *testing.B) {
	for b.Loop() {
		own.Fixed()
	}
}
