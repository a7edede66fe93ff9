package sip

import (
	"encoding/binary"
	"fmt"
	"math"
	"math/big"
	"math/bits"
	"math/rand/v2"
	"strings"
	"sync"
	"testing"
	"unsafe"
)

// rising is the bytes 0, 1, 2 and so on, round and round.
func rising(size int) string {
	b := make([]byte, size)
	for i := range b {
		b[i] = byte(i)
	}
	return string(b)
}

// some is a text of that many bytes, which go up and down.
func some(size int) string {
	b := make([]byte, size)
	for i := range b {
		b[i] = byte(i*i*7 + i/3 + 11)
	}
	return string(b)
}

// all is that many bytes n.
func all(n byte, size int) string {
	return strings.Repeat(string([]byte{n}), size)
}

// brief is s, or how it begins and how long it is.
func brief(s string) string {
	if len(s) > 40 {
		return fmt.Sprintf("%x.. (%d bytes)", s[:40], len(s))
	}
	return fmt.Sprintf("%x", s)
}

// sizes are how many bytes a text may have: none, around each whole word, around 256, where the length begins anew, and many.
var sizes = []int{
	0, 1, 2, 3, 4, 5, 6, 7, 8, 9, 15, 16, 17, 23, 24, 25, 63, 64, 65, 127, 128, 129, 247, 248, 249,
	254, 255, 256, 257, 263, 264, 265, 300, 511, 512, 513, 1500, 65535, 65536, 65537,
}

// keys are of the right size: of 0 and of 255 alone, of halves that are the same, of such that are turned, of one bit.
var keys = []string{
	rising(16), all(0, 16), all(255, 16), some(16), "0123456789abcdef",
	rising(8) + rising(8), rising(16)[8:] + rising(8), rising(16)[8:] + rising(16)[8:],
	all(0, 8) + all(255, 8), all(255, 8) + all(0, 8), all(128, 16), all(127, 16),
	"\x01" + all(0, 15), all(0, 7) + "\x80" + all(0, 8), all(0, 8) + "\x01" + all(0, 7), all(0, 15) + "\x80",
}

// turned is n turned left.
func turned(n uint64, by int) uint64 {
	return n<<by | n>>(64-by)
}

// plus is a + b modulo 2^64.
func plus(a, b uint64) uint64 {
	sum, _ := bits.Add64(a, b, 0)
	return sum
}

// roundsAgain says the rounds of P11.1 over again, each step by its words.
func roundsAgain(v0, v1, v2, v3 uint64, times int) (uint64, uint64, uint64, uint64) {
	for ; times > 0; times-- {
		v0 = plus(v0, v1)
		v1 = turned(v1, 13) ^ v0
		v0 = turned(v0, 32)
		v2 = plus(v2, v3)
		v3 = turned(v3, 16) ^ v2
		v0 = plus(v0, v3)
		v3 = turned(v3, 21) ^ v0
		v2 = plus(v2, v1)
		v1 = turned(v1, 17) ^ v2
		v2 = turned(v2, 32)
	}
	return v0, v1, v2, v3
}

// hashAgain says P11.1 over again: on the text as a whole, with the bytes that are put behind it.
func hashAgain(key, s string) (uint64, bool) {
	if len(key) != 16 {
		return 0, false
	}
	k0 := binary.LittleEndian.Uint64([]byte(key[:8]))
	k1 := binary.LittleEndian.Uint64([]byte(key[8:]))
	v0, v1 := k0^0x736f6d6570736575, k1^0x646f72616e646f6d
	v2, v3 := k0^0x6c7967656e657261, k1^0x7465646279746573
	b := []byte(s)
	for len(b)%8 != 7 {
		b = append(b, 0)
	}
	b = append(b, byte(len(s)%256))
	for ; len(b) > 0; b = b[8:] {
		m := binary.LittleEndian.Uint64(b)
		v3 ^= m
		v0, v1, v2, v3 = roundsAgain(v0, v1, v2, v3, 2)
		v0 ^= m
	}
	v2 ^= 0xff
	v0, v1, v2, v3 = roundsAgain(v0, v1, v2, v3, 4)
	return v0 ^ v1 ^ v2 ^ v3, true
}

// hashed holds Hash against hashAgain, asked twice, and answers the sum.
func hashed(t *testing.T, key, s string) uint64 {
	t.Helper()
	want, right := hashAgain(key, s)
	for range 2 {
		if got, ok := Hash(key, s); got != want || ok != right {
			t.Fatalf("Hash(%s, %s) = %#x, %v; want %#x, %v", brief(key), brief(s), got, ok, want, right)
		}
	}
	return want
}

// sum is the Hash of a key that has a right size.
func sum(t *testing.T, key, s string) uint64 {
	t.Helper()
	n, ok := Hash(key, s)
	if !ok {
		t.Fatalf("Hash(%s, %s) is false", brief(key), brief(s))
	}
	return n
}

// apart holds that no two of the texts have one sum.
func apart(t *testing.T, key string, texts []string) {
	t.Helper()
	seen := map[uint64]string{}
	for _, s := range texts {
		n := hashed(t, key, s)
		if other, there := seen[n]; there {
			t.Errorf("with the key %s, %s and %s have one sum, %#x", brief(key), brief(other), brief(s), n)
		}
		seen[n] = s
	}
}

// modulus is 2^64.
var modulus = new(big.Int).Lsh(big.NewInt(1), 64)

// whole is n as a number without end.
func whole(n uint64) *big.Int {
	return new(big.Int).SetUint64(n)
}

// shifted is x xor itself moved right, as a quotient.
func shifted(x *big.Int, by uint) *big.Int {
	return new(big.Int).Xor(x, new(big.Int).Div(x, new(big.Int).Lsh(big.NewInt(1), by)))
}

// timesAgain is the rest of x times f by 2^64.
func timesAgain(x *big.Int, f uint64) *big.Int {
	return new(big.Int).Mod(new(big.Int).Mul(x, whole(f)), modulus)
}

// mixAgain says P11.2 over again, in numbers without end, whose rests are taken.
func mixAgain(k, b uint64) uint64 {
	x := new(big.Int).Add(whole(b), big.NewInt(1))
	x = new(big.Int).Mul(x, whole(0x9e3779b97f4a7c15))
	x = new(big.Int).Mod(new(big.Int).Add(x, whole(k)), modulus)
	x = timesAgain(shifted(x, 30), 0xbf58476d1ce4e5b9)
	x = timesAgain(shifted(x, 27), 0x94d049bb133111eb)
	return shifted(x, 31).Uint64()
}

// mixed holds Mix against mixAgain, asked twice, and answers the number.
func mixed(t *testing.T, k, b uint64) uint64 {
	t.Helper()
	want := mixAgain(k, b)
	for range 2 {
		if got := Mix(k, b); got != want {
			t.Fatalf("Mix(%#x, %#x) = %#x; want %#x", k, b, got, want)
		}
	}
	return want
}

// P11.1: the chapter's own example.
func TestChapter(t *testing.T) {
	key := "\x00\x01\x02\x03\x04\x05\x06\x07\x08\x09\x0a\x0b\x0c\x0d\x0e\x0f"
	s := "\x00\x01\x02\x03\x04\x05\x06\x07\x08\x09\x0a\x0b\x0c\x0d\x0e"
	if n, ok := Hash(key, s); n != 0xa129ca6149be45e5 || !ok {
		t.Errorf("Hash = %#x, %v", n, ok)
	}
}

// P11.1: sums that another program (OpenSSL's SIPHASH) made with the key 00 to 0f: of no byte, of 00, of 00 01, and so on.
func TestKnown(t *testing.T) {
	key := rising(16)
	for size, want := range []uint64{
		0x726fdb47dd0e0e31, 0x74f839c593dc67fd, 0x0d6c8009d9a94f5a, 0x85676696d7fb7e2d,
		0xcf2794e0277187b7, 0x18765564cd99a68d, 0xcbc9466e58fee3ce, 0xab0200f58b01d137,
		0x93f5f5799a932462, 0x9e0082df0ba9e4b0, 0x7a5dbbc594ddb9f3, 0xf4b32f46226bada7,
		0x751e8fbc860ee5fb, 0x14ea5627c0843d90, 0xf723ca908e7af2ee, 0xa129ca6149be45e5,
		0x3f2acc7f57c29bdb, 0x699ae9f52cbe4794, 0x4bc1b3f0968dd39c, 0xbb6dc91da77961bd,
		0xbed65cf21aa2ee98, 0xd0f2cbb02e3b67c7, 0x93536795e3a33e88, 0xa80c038ccd5ccec8,
		0xb8ad50c6f649af94, 0xbce192de8a85b8ea, 0x17d835b85bbb15f3, 0x2f2e6163076bcfad,
		0xde4daaaca71dc9a5, 0xa6a2506687956571, 0xad87a3535c49ef28, 0x32d892fad841c342,
		0x7127512f72f27cce, 0xa7f32346f95978e3, 0x12e0b01abb051238, 0x15e034d40fa197ae,
		0x314dffbe0815a3b4, 0x027990f029623981, 0xcadcd4e59ef40c4d, 0x9abfd8766a33735c,
		0x0e3ea96b5304a7d0, 0xad0c42d6fc585992, 0x187306c89bc215a9, 0xd4a60abcf3792b95,
		0xf935451de4f21df2, 0xa9538f0419755787, 0xdb9acddff56ca510, 0xd06c98cd5c0975eb,
		0xe612a3cb9ecba951, 0xc766e62cfcadaf96, 0xee64435a9752fe72, 0xa192d576b245165a,
		0x0a8787bf8ecb74b2, 0x81b3e73d20b49b6f, 0x7fa8220ba3b2ecea, 0x245731c13ca42499,
		0xb78dbfaf3a8d83bd, 0xea1ad565322a1a0b, 0x60e61c23a3795013, 0x6606d7e446282b93,
		0x6ca4ecb15c5f91e1, 0x9f626da15c9625f3, 0xe51b38608ef25f57, 0x958a324ceb064572,
	} {
		if n, ok := Hash(key, rising(size)); n != want || !ok {
			t.Errorf("of %d bytes: Hash = %#x, %v; want %#x", size, n, ok, want)
		}
	}
}

// P11.1: more sums that it made: around 256 bytes, of 0 and of 255 alone, of keys of two halves.
func TestMadeElsewhere(t *testing.T) {
	up := rising(16)
	for _, c := range []struct {
		key, s string
		want   uint64
	}{
		{up, rising(255), 0xa9c169fec74db21a},
		{up, rising(256), 0x999d0526d2a7bfd7},
		{up, rising(257), 0x8a817b8d55b29748},
		{up, rising(300), 0x4b0b710db6117839},
		{up, rising(1500), 0xb15522cf08ed635f},
		{up, rising(65541), 0x1f78fa55ed3ce773},

		{all(0, 16), "", 0x1e924b9d737700d7},
		{all(0, 16), all(0, 1), 0x8b5a0baa49fbc58d},
		{all(0, 16), all(0, 6), 0x56b2c92611e31c6a},
		{all(0, 16), all(0, 7), 0x85f896b6040a13ec},
		{all(0, 16), all(0, 8), 0xe849e8bb6ffe2567},
		{all(0, 16), all(0, 9), 0x2d508cd20c8f0cef},
		{all(0, 16), all(0, 15), 0x97f21481e1333322},
		{all(0, 16), all(0, 16), 0x32caecc280172976},
		{all(0, 16), all(0, 17), 0x30fed5b17612e278},
		{all(0, 16), all(0, 255), 0x8b21238d5527793f},
		{all(0, 16), all(0, 256), 0x80d978d6fa417c1e},
		{all(0, 16), all(0, 257), 0x2d0244227390b43d},
		{all(0, 16), all(0, 300), 0x239ed067b61f71a4},

		{all(255, 16), "", 0x35dd279ee86ce565},
		{all(255, 16), all(255, 1), 0xeb45304aebf4e114},
		{all(255, 16), all(255, 6), 0x81428cc1d52efd99},
		{all(255, 16), all(255, 7), 0x7008818ecf918e11},
		{all(255, 16), all(255, 8), 0xf13e77491777f9d0},
		{all(255, 16), all(255, 9), 0x1b8d0792b6620321},
		{all(255, 16), all(255, 15), 0x5c8ba31dbb0d14c8},
		{all(255, 16), all(255, 16), 0x1a27dd859ed29a2e},
		{all(255, 16), all(255, 17), 0x5bcee02a61c29836},
		{all(255, 16), all(255, 255), 0xb6da527cf0f604e3},
		{all(255, 16), all(255, 256), 0xc1774ddffc4ff77e},
		{all(255, 16), all(255, 257), 0xf4ba1291607478ee},
		{all(255, 16), all(255, 300), 0xd51eeec5e2ab0cc0},

		{up, "weighbridge", 0xf7e340add16b1f65},
		{up[8:] + up[:8], "", 0xdcfd6d5d78f133c7}, // the halves turned
		{up[8:] + up[:8], "weighbridge", 0xf2475cabcea66dc7},
		{up[:8] + up[:8], "", 0x47397efdc19f19b1}, // the halves the same
		{up[:8] + up[:8], "weighbridge", 0xa10ac8711bb95bbc},
		{up[8:] + up[8:], "", 0x84fd3a0ab0a134fe},
		{up[8:] + up[8:], "weighbridge", 0x23e84f77bd60aed7},
	} {
		if n, ok := Hash(c.key, c.s); n != c.want || !ok {
			t.Errorf("Hash(%s, %s) = %#x, %v; want %#x", brief(c.key), brief(c.s), n, ok, c.want)
		}
		if n := hashed(t, c.key, c.s); n != c.want {
			t.Errorf("said over again, %s with the key %s has %#x; want %#x", brief(c.s), brief(c.key), n, c.want)
		}
	}
}

// P11.1 and P2 of the rules: a key that has not 16 bytes has no sum, and 0 then, whatever the text.
func TestKeySizes(t *testing.T) {
	wrong := []int{254, 255, 256, 257, 271, 272, 273, 65536, 65552, 1 << 20}
	for size := range 200 {
		if size != 16 {
			wrong = append(wrong, size)
		}
	}
	for _, size := range wrong {
		for _, key := range []string{rising(size), all(0, size), all(255, size)} {
			for _, s := range []string{"", "x", rising(15), rising(16), key, all(0, 300)} {
				if n, ok := Hash(key, s); n != 0 || ok {
					t.Fatalf("a key of %d bytes: Hash(%s, %s) = %#x, %v", size, brief(key), brief(s), n, ok)
				}
			}
		}
	}
	if _, ok := Hash("ääääääää", ""); !ok {
		t.Error("a key of 8 letters, which are 16 bytes, is refused")
	}
	if _, ok := Hash("ääääääääääääääää", ""); ok {
		t.Error("a key of 16 letters, which are 32 bytes, is taken")
	}
}

// P11.1: texts of each length, with each key.
func TestSizes(t *testing.T) {
	for _, key := range keys {
		for _, size := range sizes {
			hashed(t, key, rising(size))
			hashed(t, key, some(size))
			hashed(t, key, all(0, size))
			hashed(t, key, all(255, size))
			hashed(t, key, all(128, size))
		}
	}
	for size := range 1100 {
		hashed(t, keys[0], rising(size))
		hashed(t, keys[3], some(size))
		hashed(t, keys[2], all(255, size))
	}
	hashed(t, keys[0], some(1<<20+5))
}

// P11.1: of bytes 0 alone, and of bytes 0 behind a text, just how many there are is to be seen; in one word, only in its last byte.
func TestZeros(t *testing.T) {
	for _, key := range keys {
		for _, front := range []string{"", "a", "abcdef", "abcdefg", "abcdefgh", "abcdefghi", rising(15), all(255, 16)} {
			texts := make([]string, 600)
			for size := range texts {
				texts[size] = front + all(0, size)
			}
			apart(t, key, texts)
		}
	}
}

// P11.1: the length is told modulo 256, so that what a text of n + 256 bytes has in its last word is what one of n has there.
func TestLengthModulo(t *testing.T) {
	for _, key := range keys {
		for size := range 64 {
			texts := []string{}
			for times := range 5 {
				texts = append(texts, all(0, size+256*times), "\x01"+all(0, size+256*times), all(255, size+256*times+1))
			}
			apart(t, key, texts)
		}
	}
	// A byte of the text stands where the number does in a shorter one: the words behind it tell them apart.
	apart(t, keys[0], []string{"\x00\x00\x00\x00\x00\x00\x00", "\x00\x00\x00\x00\x00\x00\x00\x07", "\x00\x00\x00\x00\x00\x00\x00\x08"})
}

// P11.1: each bit of a text, and of a key, counts, in its own place.
func TestEachBit(t *testing.T) {
	flipped := func(s string, bit int) string {
		b := []byte(s)
		b[bit/8] ^= 1 << (bit % 8)
		return string(b)
	}
	for _, key := range keys {
		for _, size := range []int{1, 6, 7, 8, 9, 15, 16, 17, 33} {
			texts := []string{some(size)}
			for bit := range 8 * size {
				texts = append(texts, flipped(some(size), bit))
			}
			apart(t, key, texts)
		}
	}
	for _, s := range []string{"", "a", rising(7), rising(8), rising(9), all(255, 300)} {
		seen := map[uint64]bool{hashed(t, keys[0], s): true}
		for bit := range 8 * 16 {
			seen[hashed(t, flipped(keys[0], bit), s)] = true
		}
		if len(seen) != 1+8*16 {
			t.Errorf("of %s just %d sums with %d keys", brief(s), len(seen), 1+8*16)
		}
	}
}

// P11.1: the two halves of a key, turned, the same, and other ones; the bytes of a half turned.
func TestHalves(t *testing.T) {
	halves := []string{all(0, 8), all(255, 8), rising(8), rising(16)[8:], some(8), "\x01" + all(0, 7), all(0, 7) + "\x01", all(0, 7) + "\x80"}
	for _, s := range []string{"", "a", rising(7), rising(8), rising(15), rising(16), all(0, 9), all(255, 17)} {
		seen := map[uint64]bool{}
		for _, a := range halves {
			for _, b := range halves {
				seen[hashed(t, a+b, s)] = true
			}
		}
		if len(seen) != len(halves)*len(halves) {
			t.Errorf("of %s just %d sums with %d keys", brief(s), len(seen), len(halves)*len(halves))
		}
	}
}

// P11.1: a text is its bytes, whether they are letters or not.
func TestBytes(t *testing.T) {
	texts := []string{"ä", "a\u0308", "\xe4", "\xc3", "\xa4", "\xc3\xa4\x00", "\xff\xfe", "\xef\xbf\xbd", "\xf0\x9f\x98\x80", "\x80", "€uro", "a\x00b", "a\nb"}
	for n := range 256 {
		texts = append(texts, all(byte(n), 3), all(byte(n), 8))
	}
	for _, key := range keys {
		apart(t, key, texts)
	}
}

// P11.1: keys and texts of all kinds.
func TestHashMany(t *testing.T) {
	r := rand.New(rand.NewPCG(11, 2026))
	text := func(size int) string {
		b := make([]byte, size)
		for i := range b {
			b[i] = byte(r.Uint32() >> r.IntN(32))
		}
		return string(b)
	}
	for range 100000 {
		size := 16
		if r.IntN(20) == 0 {
			size = r.IntN(40)
		}
		hashed(t, text(size), text(r.IntN(70)))
	}
}

// edges are numbers that lie at the ends of something: of 64 bits, of halves, of what is moved right, of what wraps.
func edges() []uint64 {
	l := []uint64{
		0x9e3779b97f4a7c15, 0x61c8864680b583eb, 0xbf58476d1ce4e5b9, 0x94d049bb133111eb, 0xaaaaaaaaaaaaaaaa, 0x5555555555555555,
		math.MaxInt64, 1 << 63, math.MaxUint64, math.MaxUint64 - 1, math.MaxUint64 - 2, math.MaxUint64 - 255, math.MaxUint32, 0, 3, 65535, 65537, 0x0123456789abcdef,
	}
	for bit := range 64 {
		l = append(l, 1<<bit, 1<<bit-1, -(1 << bit))
	}
	return l
}

// P11.2: by examples, the first of which are the numbers that SplitMix64 gives from 0, and from 1234567.
func TestMix(t *testing.T) {
	for _, c := range []struct {
		k, b, want uint64
	}{
		{0, 0, 0xe220a8397b1dcdaf},
		{0, 1, 0x6e789e6aa1b965f4},
		{0, 2, 0x06c45d188009454f},
		{0, 3, 0xf88bb8a8724c81ec},
		{0, 4, 0x1b39896a51a8749b},
		{1234567, 0, 6457827717110365317},
		{1234567, 1, 3203168211198807973},
		{1234567, 2, 9817491932198370423},
		{1234567, 3, 4593380528125082431},
		{1234567, 4, 16408922859458223821},
		{0, math.MaxUint64, 0},     // b + 1 is 0, and so is all that comes of it
		{0x61c8864680b583eb, 0, 0}, // k and the first product wrap to 0
		{0x9e3779b97f4a7c15, math.MaxUint64, 0xe220a8397b1dcdaf},
		{0x9e3779b97f4a7c15, 0, 0x6e789e6aa1b965f4},
		{0x61c8864680b583eb, 1, 0xe220a8397b1dcdaf},
	} {
		if got := Mix(c.k, c.b); got != c.want {
			t.Errorf("Mix(%#x, %#x) = %#x; want %#x", c.k, c.b, got, c.want)
		}
		mixed(t, c.k, c.b)
	}
}

// P11.2: each edge with each other one.
func TestMixEdges(t *testing.T) {
	for _, k := range edges() {
		for _, b := range edges() {
			mixed(t, k, b)
		}
	}
}

// P11.2: small numbers, as buckets are, near ones, and such of all 64 bits; the two may not be turned.
func TestMixMany(t *testing.T) {
	r := rand.New(rand.NewPCG(2, 11))
	for range 100000 {
		k, b := r.Uint64()>>r.IntN(64), r.Uint64()>>r.IntN(64)
		if mixed(t, k, b) == mixed(t, b, k) && k != b {
			t.Fatalf("Mix(%#x, %#x) is as with the two turned", k, b)
		}
	}
	for n := range uint64(1 << 12) {
		mixed(t, 0, n)
		mixed(t, n, 0)
		mixed(t, n, n)
		mixed(t, math.MaxUint64-n, n)
		mixed(t, n, math.MaxUint64-n)
		mixed(t, math.MaxUint64-n, math.MaxUint64-n)
	}
}

// inverse is what f, which is odd, times it is 1, modulo 2^64.
func inverse(f uint64) uint64 {
	n := new(big.Int).ModInverse(whole(f), modulus)
	return n.Uint64()
}

// unshifted is what, xor itself moved right, is x.
func unshifted(x uint64, by int) uint64 {
	n := x
	for at := by; at < 64; at += by {
		n ^= x >> at
	}
	return n
}

// unmixed is the sum at which Mix begins, of what it ends with.
func unmixed(x uint64) uint64 {
	x = unshifted(x, 31) * inverse(0x94d049bb133111eb)
	x = unshifted(x, 27) * inverse(0xbf58476d1ce4e5b9)
	return unshifted(x, 30)
}

// P11.3: with one b, k can be told from the number, and with one k, b can; so no two of them have one.
func TestMixBack(t *testing.T) {
	stride := uint64(0x9e3779b97f4a7c15)
	back := func(k, b uint64) {
		x := unmixed(Mix(k, b))
		if x-stride*(b+1) != k {
			t.Fatalf("from Mix(%#x, %#x) comes the k %#x", k, b, x-stride*(b+1))
		}
		if (x-k)*inverse(stride)-1 != b {
			t.Fatalf("from Mix(%#x, %#x) comes the b %#x", k, b, (x-k)*inverse(stride)-1)
		}
	}
	for _, k := range edges()[:60] {
		for _, b := range edges()[:60] {
			back(k, b)
		}
	}
	r := rand.New(rand.NewPCG(3, 11))
	for range 20000 {
		back(r.Uint64()>>r.IntN(64), r.Uint64()>>r.IntN(64))
	}
}

// P11.3: each number there may be is one of a k with one b, and of a b with one k.
func TestMixReachesAll(t *testing.T) {
	for _, x := range edges() {
		for _, one := range []uint64{0, 1, 65535, 1 << 63, math.MaxUint64} {
			if k := unmixed(x) - 0x9e3779b97f4a7c15*(one+1); Mix(k, one) != x {
				t.Errorf("Mix(%#x, %#x) = %#x; want %#x", k, one, Mix(k, one), x)
			}
			if b := (unmixed(x)-one)*inverse(0x9e3779b97f4a7c15) - 1; Mix(one, b) != x {
				t.Errorf("Mix(%#x, %#x) = %#x; want %#x", one, b, Mix(one, b), x)
			}
		}
	}
}

// P11.3: no two numbers have one, by trying: around 0 and the greatest, where one more wraps, and at each bit.
func TestMixOneToOne(t *testing.T) {
	numbers := map[uint64]bool{}
	for n := range uint64(1 << 15) {
		numbers[n-1<<14] = true
	}
	for _, n := range edges() {
		numbers[n] = true
		numbers[n+1] = true
	}
	for _, one := range []uint64{0, 1, 2, 65535, 1 << 32, 1 << 63, 0x61c8864680b583eb, math.MaxUint64 - 1, math.MaxUint64} {
		ofK, ofB := map[uint64]bool{}, map[uint64]bool{}
		for n := range numbers {
			ofK[Mix(n, one)] = true
			ofB[Mix(one, n)] = true
		}
		if len(ofK) != len(numbers) || len(ofB) != len(numbers) {
			t.Errorf("with %#x, %d numbers are mixed to %d as k, to %d as b", one, len(numbers), len(ofK), len(ofB))
		}
	}
}

// P4 of the rules: what is answered does not hang on what was asked before, nor on who asks at the same time.
func TestSameAgain(t *testing.T) {
	texts := []string{"", "a", rising(7), rising(8), rising(15), all(0, 16), all(255, 300)}
	var first, second []uint64
	for _, key := range keys {
		for i, s := range texts {
			first = append(first, sum(t, key, s), Mix(uint64(len(s)), uint64(i)))
		}
	}
	for range 3 {
		Hash("", "x")
		Hash(all(255, 17), "y")
		Mix(math.MaxUint64, math.MaxUint64)
	}
	for k := len(keys) - 1; k >= 0; k-- {
		for i := len(texts) - 1; i >= 0; i-- {
			second = append(second, Mix(uint64(len(texts[i])), uint64(i)), sum(t, keys[k], texts[i]))
		}
	}
	for i, n := range first {
		if second[len(second)-1-i] != n {
			t.Errorf("the %dth answer was %#x, and is %#x when all is asked the other way round", i, n, second[len(second)-1-i])
		}
	}
	var group sync.WaitGroup
	for k, key := range keys {
		group.Go(func() {
			for range 100 {
				for i, s := range texts {
					at := 2 * (k*len(texts) + i)
					if n, ok := Hash(key, s); n != first[at] || !ok || Mix(uint64(len(s)), uint64(i)) != first[at+1] {
						t.Errorf("beside others, Hash(%s, %s) = %#x, %v", brief(key), brief(s), n, ok)
					}
				}
			}
		})
	}
	group.Wait()
}

// P3 of the rules: nothing that is handed in is written into, nor what stands around it, nor does that count, nor is any of it kept.
func TestNothingKept(t *testing.T) {
	for _, size := range sizes {
		for _, around := range []string{"\x00", "<", "\xff"} {
			kept := around + keys[3] + around + some(size) + around
			room := []byte(kept)
			key := unsafe.String(&room[1], 16)
			s := unsafe.String(&room[18], size)
			want, _ := hashAgain(keys[3], some(size))
			n, ok := Hash(key, s)
			if string(room) != kept {
				t.Errorf("what was handed in is now %s", brief(string(room)))
			}
			if n != want || !ok {
				t.Errorf("of %d bytes: Hash = %#x, %v; want %#x", size, n, ok, want)
			}
			room[1] ^= 1 // the same memory, with another key, has another sum
			other, _ := hashAgain(key, s)
			if n, ok := Hash(key, s); n != other || !ok || n == want {
				t.Errorf("of %d bytes and another key: Hash = %#x, %v; want %#x", size, n, ok, other)
			}
		}
	}
}
