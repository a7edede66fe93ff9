package cksum

import (
	"encoding/binary"
	"math"
	"slices"
	"strings"
	"testing"
	"unsafe"
)

// edges are words that lie at the ends of something: of a word, of its bytes, of its bits.
var edges = []uint16{
	0, 1, 2, 0x7f, 0x80, 0xfe, 0xff, 0x100, 0x101, 0x1ff, 0x220d, 0x3285, 0x5555, 0x7ffe, 0x7fff, 0x8000, 0x8001,
	0xaaaa, 0xdd2f, 0xfeff, 0xff00, 0xff01, 0xfffd, 0xfffe, 0xffff,
}

// texts are short ones: of no byte, of one, of odd and even lengths, all 0, of the greatest sums.
var texts = []string{
	"", "\x00", "\x01", "\xff", "\x00\x00", "\x00\x01", "\x01\x00", "\xff\xff", "\xff\xfe", "\x00\x00\x00", "\x00\x00\x01",
	"\xff\xff\xff", "\x00\xff\xff", "\xff\xff\x00\x00", "\x00\x00\xff\xff", "\xff\xff\xff\xff", "\xff\xfe\x00\x01", "\xff\xff\x00\x01",
	"\x80\x00\x80\x00", "\x80\x00\x7f\xff", "\xfe\xff\x01", "\xff\xff\xff\xff\xff", "abcdefgh", "\xe2\x82\xac\xf0\x9f",
	"\x00\x01\xf2\x03\xf4\xf5\xf6\xf7", "\x00\x00\x00\x00\x00\x00\x00\x00", strings.Repeat("\xff", 1500), strings.Repeat("\x00", 1501),
}

// text is one of that many bytes, which go up and down.
func text(size int) string {
	b := make([]byte, size)
	for i := range b {
		b[i] = byte(i*i*7 + i/3 + 5)
	}
	return string(b)
}

// foldPlain says P3.1 of Fold over again, in other means than the package's:
// 65536 counts as 1, so that what stays is n without its 65535s, and nothing just of 0.
func foldPlain(n uint64) uint16 {
	if n == 0 {
		return 0
	}
	return uint16((n-1)%65535 + 1)
}

// sumPlain says P3.1 of Sum over again, byte by byte.
func sumPlain(s string) uint16 {
	n := uint64(0)
	for i := 0; i < len(s); i++ {
		if i%2 == 0 {
			n += 256 * uint64(s[i])
		} else {
			n += uint64(s[i])
		}
	}
	return foldPlain(n)
}

// updatePlain says P3.2 of Update over again.
func updatePlain(check, old, now uint16) uint16 {
	return uint16(65535 - int(foldPlain(uint64(65535-int(check)+65535-int(old)+int(now)))))
}

// update32Plain says P3.2 of Update32 over again.
func update32Plain(check uint16, old, now uint32) uint16 {
	check = updatePlain(check, uint16(old/65536), uint16(now/65536))
	return updatePlain(check, uint16(old%65536), uint16(now%65536))
}

// P3.1: Fold, by examples.
func TestFold(t *testing.T) {
	for _, c := range []struct {
		n    uint64
		want uint16
	}{
		{0, 0},
		{1, 1},
		{0x1234, 0x1234}, // what is no more than a word stays
		{65534, 65534},
		{65535, 65535}, // and is not taken for 0
		{65536, 1},     // what is above it is carried round
		{65537, 2},
		{0x12345, 0x2346},
		{0x2ddf0, 0xddf2},
		{0x1fffe, 0xffff}, // once, to the greatest word
		{131070, 65535},
		{0x1ffff, 1}, // twice: 0x1ffff, 0x10000, 1
		{0xffff0000, 0xffff},
		{0xffff0001, 1},
		{0xffffffff, 0xffff}, // twice: 0x1fffe, 0xffff
		{0x100000000, 1},     // twice: 0x10000, 1
		{0xfffe00010000, 0xffff},
		{0xffffffffffff, 0xffff}, // three times
		{0x1000000000000, 1},
		{0x8000000000000000, 0x8000},
		{0x0001000100010001, 4},
		{0xffff000000000001, 1},
		{0xffffffffffff0000, 0xffff},
		{0xfffffffffffffffe, 0xfffe},
		{math.MaxUint64, 65535}, // four times
	} {
		if got := Fold(c.n); got != c.want {
			t.Errorf("Fold(%#x) = %#x; want %#x", c.n, got, c.want)
		}
	}
}

// P3.1: Fold around each power of 2, around each end of a word, and at words in each place.
func TestFoldMany(t *testing.T) {
	check := func(n uint64) {
		want := foldPlain(n)
		if got := Fold(n); got != want || Fold(n) != got {
			t.Fatalf("Fold(%#x) = %#x; want %#x", n, got, want)
		}
	}
	for n := range uint64(1 << 18) {
		check(n)
		check(math.MaxUint64 - n)
		check(1<<32 + n)
		check(1<<32 - n)
		check(n << 32)
	}
	for bit := range 64 {
		for n := range uint64(1000) {
			check(1<<bit + n)
			check(1<<bit - n) // at the lowest bits this wraps, to the greatest numbers
		}
	}
	for _, a := range edges {
		for _, b := range edges {
			for _, c := range edges {
				for _, d := range edges {
					check(uint64(a)<<48 | uint64(b)<<32 | uint64(c)<<16 | uint64(d))
				}
			}
		}
	}
}

// P3.1: Sum, and P3.2: Check, by examples.
func TestSumAndCheck(t *testing.T) {
	for _, c := range []struct {
		s          string
		sum, check uint16
	}{
		{"\x00\x01\xf2\x03\xf4\xf5\xf6\xf7", 0xddf2, 0x220d}, // the chapter's example
		{"", 0, 65535},
		{"a", 'a' << 8, 65535 - 'a'<<8}, // one byte is the upper half
		{"\x00", 0, 65535},
		{"\x01", 0x0100, 0xfeff},
		{"\xff", 0xff00, 0x00ff},
		{"\x00\x01", 1, 65534},
		{"\x01\x00", 0x0100, 0xfeff},
		{"\x12\x34", 0x1234, 0xedcb}, // the greatest byte first
		{"\x12\x34\x56", 0x6834, 0x97cb},
		{"\x00\x00\x00\x00", 0, 65535}, // all 0
		{"\x00\x00\x00", 0, 65535},
		{"\xff\xff", 65535, 0}, // a sum of 65535, which is not 0
		{"\xff\xff\x00\x00", 65535, 0},
		{"\xff\xfe\x00\x01", 65535, 0},
		{"\xff\xff\xff\xff", 65535, 0},
		{"\x80\x00\x7f\xff", 65535, 0},
		{"\xff\xff\x00\x01", 1, 65534}, // just carried round
		{"\x80\x00\x80\x00", 1, 65534},
		{"\xff\xff\xff", 0xff00, 0x00ff},
		{"\xff\x00\x00\xff\x01", 0x0100, 0xfeff},
		{"\xe2\x82\xac", 0x8e83, 0x717c}, // bytes, not runes
		{"\x45\x00\x00\x73\x00\x00\x40\x00\x40\x11\x00\x00\xc0\xa8\x00\x01\xc0\xa8\x00\xc7", 0x479e, 0xb861}, // a header, without its check and with it
		{"\x45\x00\x00\x73\x00\x00\x40\x00\x40\x11\xb8\x61\xc0\xa8\x00\x01\xc0\xa8\x00\xc7", 65535, 0},
	} {
		if got := Sum(c.s); got != c.sum {
			t.Errorf("Sum(%x) = %#x; want %#x", c.s, got, c.sum)
		}
		if got := Check(c.s); got != c.check {
			t.Errorf("Check(%x) = %#x; want %#x", c.s, got, c.check)
		}
	}
}

func checkSum(t *testing.T, s string) {
	t.Helper()
	want := sumPlain(s)
	for range 2 {
		if got := Sum(s); got != want {
			t.Fatalf("Sum of %d bytes, %.40x = %#x; want %#x", len(s), s, got, want)
		}
		if got := Check(s); int(got) != 65535-int(want) {
			t.Fatalf("Check of %d bytes, %.40x = %#x; want %#x", len(s), s, got, 65535-int(want))
		}
	}
}

// P3.1 and P3.2: Sum and Check of each text of two bytes, and of each length of some packets.
func TestSumMany(t *testing.T) {
	for _, s := range texts {
		checkSum(t, s)
	}
	for n := range 1 << 16 {
		checkSum(t, string([]byte{byte(n >> 8), byte(n)}))
		checkSum(t, string([]byte{byte(n >> 8), byte(n), 0xff}))
		checkSum(t, string([]byte{0xff, 0xff, byte(n >> 8), byte(n)}))
	}
	long := text(1502)
	for size := range len(long) + 1 {
		checkSum(t, long[:size])
		checkSum(t, long[size:])
		checkSum(t, strings.Repeat("\xff", size))
	}
}

// P3.1 and P3.2: long texts, some of whose words have more than 32 bits in all.
func TestSumLong(t *testing.T) {
	for _, size := range []int{65535, 65536, 131072, 131074, 131076, 131077, 1 << 20, 1<<20 + 1, 1<<24 - 1} {
		checkSum(t, text(size))
		checkSum(t, strings.Repeat("\xff", size))
		checkSum(t, strings.Repeat("\x00", size))
		checkSum(t, strings.Repeat("\xff", size/2*2)+"\x00\x01")
		checkSum(t, strings.Repeat("\x00", size)+"\x01")
	}
}

// P3.1: Join, by examples: of no number, of one, of many.
func TestJoin(t *testing.T) {
	for _, c := range []struct {
		l    []uint16
		want uint16
	}{
		{nil, 0},
		{[]uint16{}, 0},
		{[]uint16{0}, 0},
		{[]uint16{1}, 1},
		{[]uint16{65534}, 65534},
		{[]uint16{65535}, 65535}, // which is not 0
		{[]uint16{0, 0, 0}, 0},
		{[]uint16{1, 2, 3}, 6},
		{[]uint16{65535, 0}, 65535},
		{[]uint16{0, 65535}, 65535},
		{[]uint16{65534, 1}, 65535},
		{[]uint16{65535, 1}, 1}, // carried round
		{[]uint16{1, 65535}, 1},
		{[]uint16{65535, 2}, 2},
		{[]uint16{65535, 65535}, 65535},
		{[]uint16{0x8000, 0x8000}, 1},
		{[]uint16{65535, 65535, 1}, 1},
		{[]uint16{0x0001, 0xf203, 0xf4f5, 0xf6f7}, 0xddf2},
		{slices.Repeat([]uint16{65535}, 70000), 65535}, // more than 32 bits in all
		{append(slices.Repeat([]uint16{65535}, 70000), 7), 7},
		{slices.Repeat([]uint16{1}, 65535), 65535},
		{slices.Repeat([]uint16{1}, 65536), 1},
		{slices.Repeat([]uint16{0}, 70000), 0},
	} {
		if got := Join(c.l...); got != c.want {
			t.Errorf("Join of %d, %.10v = %#x; want %#x", len(c.l), c.l, got, c.want)
		}
	}
	if Join() != 0 || Join(5) != 5 || Join(65535, 1) != 1 || Join(1, 2, 3) != 6 {
		t.Error("Join of numbers that are listed one by one")
	}
}

// P3.1: Join of each two and three edges.
func TestJoinMany(t *testing.T) {
	for _, a := range edges {
		if got := Join(a); got != a {
			t.Errorf("Join(%#x) = %#x", a, got)
		}
		for _, b := range edges {
			if got, want := Join(a, b), foldPlain(uint64(a)+uint64(b)); got != want {
				t.Errorf("Join(%#x, %#x) = %#x; want %#x", a, b, got, want)
			}
			for _, c := range edges {
				if got, want := Join(a, b, c), foldPlain(uint64(a)+uint64(b)+uint64(c)); got != want {
					t.Errorf("Join(%#x, %#x, %#x) = %#x; want %#x", a, b, c, got, want)
				}
			}
		}
	}
}

// P3.2: Update, by examples.
func TestUpdate(t *testing.T) {
	for _, c := range []struct {
		check, old, now uint16
		want            uint16
	}{
		{0xdd2f, 0x5555, 0x3285, 0x0000}, // RFC 1624's example, which RFC 1141 gets wrong
		{0x220d, 0xf203, 0xf204, 0x220c},
		{0x220d, 0xf203, 0xf202, 0x220e},
		{0x220d, 0x1234, 0x1234, 0x220d}, // as it was
		{0x220d, 0, 0, 0x220d},
		{0x220d, 65535, 65535, 0x220d},
		{1, 7, 7, 1},
		{65534, 7, 7, 65534},
		{0, 7, 7, 0},
		{0, 0, 0, 0},
		{0, 65535, 65535, 0},
		{65535, 7, 7, 0}, // no text but one that is all 0 has it
		{65535, 0, 0, 0},
		{65535, 65535, 0, 65535}, // nothing is left to sum
		{65535, 65535, 65535, 0},
		{65535, 0, 1, 65534},
		{65535, 0, 65535, 0},
		{0, 0, 1, 65534},
		{0, 0, 65535, 0},
		{0, 65535, 0, 0},
		{0, 1, 0, 1},
		{65534, 1, 0, 0},
		{65534, 0, 65534, 0},
		{65534, 0, 65535, 65534}, // carried round
		{0x7fff, 0, 0x8000, 0x7fff - 1 + 0x8000},
		{1, 0, 2, 65534},
	} {
		if got := Update(c.check, c.old, c.now); got != c.want {
			t.Errorf("Update(%#x, %#x, %#x) = %#x; want %#x", c.check, c.old, c.now, got, c.want)
		}
	}
}

// P3.2: Update of each word in each place, the others at the edges.
func TestUpdateMany(t *testing.T) {
	check := func(check, old, now uint16) {
		want := updatePlain(check, old, now)
		if got := Update(check, old, now); got != want || Update(check, old, now) != got {
			t.Fatalf("Update(%#x, %#x, %#x) = %#x; want %#x", check, old, now, got, want)
		}
	}
	for _, a := range edges {
		for _, b := range edges {
			for n := range 1 << 16 {
				check(uint16(n), a, b)
			}
			for n := 0; n < 1<<16; n += 17 {
				check(a, uint16(n), b)
				check(a, b, uint16(n))
			}
			check(a, b, b)
		}
	}
}

// P3.2: Update32, by examples: both halves are others, or one of them, or none.
func TestUpdate32(t *testing.T) {
	for _, c := range []struct {
		check    uint16
		old, now uint32
		want     uint16
	}{
		{0x220d, 0x0001f203, 0x0002f203, 0x220c}, // the upper half
		{0x220d, 0x0001f203, 0x0001f204, 0x220c}, // the lower half
		{0x220d, 0x0001f203, 0x0002f204, 0x220b}, // both
		{0x220d, 0x0001f203, 0x0000f204, 0x220d}, // both, by as much
		{0x220d, 0x0001f203, 0x0001f203, 0x220d}, // none
		{0x220d, 0x12345678, 0x56781234, 0x220d}, // the one for the other
		{0x220d, 0, 0, 0x220d},
		{0x220d, math.MaxUint32, math.MaxUint32, 0x220d},
		{0, 5, 5, 0},
		{65535, 5, 5, 0},
		{65535, 0, 0x00010002, 65532},
		{0xb861, 0xc0a80001, 0x0a000001, 0x6f0a}, // an address of a header
		{65535, math.MaxUint32, 0, 65535},
		{0, 0, math.MaxUint32, 0},
		{0xdd2f, 0x00005555, 0x00003285, 0},
		{0xdd2f, 0x55550000, 0x32850000, 0},
	} {
		if got := Update32(c.check, c.old, c.now); got != c.want {
			t.Errorf("Update32(%#x, %#x, %#x) = %#x; want %#x", c.check, c.old, c.now, got, c.want)
		}
	}
}

// P3.2: Update32 at all edges of both halves.
func TestUpdate32Many(t *testing.T) {
	few := []uint16{0, 1, 0xff, 0x100, 0x7fff, 0x8000, 0xaaaa, 0xfffe, 0xffff}
	for _, check := range edges {
		for _, a := range few {
			for _, b := range few {
				for _, c := range few {
					for _, d := range few {
						old, now := uint32(a)<<16|uint32(b), uint32(c)<<16|uint32(d)
						want := update32Plain(check, old, now)
						if got := Update32(check, old, now); got != want || Update32(check, old, now) != got {
							t.Fatalf("Update32(%#x, %#x, %#x) = %#x; want %#x", check, old, now, got, want)
						}
					}
				}
			}
		}
	}
}

// wordsOf are the words of s; an odd s has a last byte alone.
func wordsOf(s string) []string {
	var out []string
	for chunk := range slices.Chunk([]byte(s), 2) {
		out = append(out, string(chunk))
	}
	return out
}

// P3.3: words may be summed in any order, here from behind, in turns and sorted.
func TestAnyOrder(t *testing.T) {
	for _, s := range append([]string{text(1500), text(1 << 17), text(262), text(6)}, texts...) {
		if len(s)%2 != 0 {
			s += "\x07"
		}
		want, words := Sum(s), wordsOf(s)
		checkOrder := func(how string) {
			t.Helper()
			if got := Sum(strings.Join(words, "")); got != want {
				t.Errorf("Sum of %.20x in another order (%s) = %#x; want %#x", s, how, got, want)
			}
		}
		slices.Reverse(words)
		checkOrder("from behind")
		slices.Sort(words)
		checkOrder("sorted")
		for turn := range min(len(words), 20) {
			words = append(words[1:], words[0])
			checkOrder("in turns")
			words[0], words[turn] = words[turn], words[0]
			checkOrder("two of them swapped")
		}
	}
}

// P3.3: Join has the sums of the words themselves, in any order.
func TestJoinOfWords(t *testing.T) {
	for _, s := range append([]string{text(1500), text(1501)}, texts...) {
		var l []uint16
		for _, w := range wordsOf(s) {
			l = append(l, binary.BigEndian.Uint16([]byte(w + "\x00")[:2]))
		}
		for _, how := range []string{"in order", "from behind"} {
			if got, want := Join(l...), Sum(s); got != want {
				t.Errorf("Join of the words of %.20x %s = %#x; want %#x", s, how, got, want)
			}
			slices.Reverse(l)
		}
	}
}

// P3.3: a text may be summed in parts of an even length; the last one may be odd.
func TestParts(t *testing.T) {
	for _, s := range append([]string{text(1500), text(1501), text(21), text(1<<20 + 1)}, texts...) {
		want := Sum(s)
		for cut := 0; cut <= min(len(s), 1501); cut += 2 {
			if got := Join(Sum(s[:cut]), Sum(s[cut:])); got != want {
				t.Fatalf("Sum of %.20x cut at %d = %#x; want %#x", s, cut, got, want)
			}
			if got := Join(Sum(s[cut:]), Sum(s[:cut])); got != want {
				t.Fatalf("Sum of %.20x cut at %d, the last first = %#x; want %#x", s, cut, got, want)
			}
		}
		for _, size := range []int{2, 4, 6, 20, 256, 1500} {
			var l []uint16
			for part := range slices.Chunk([]byte(s), size) {
				l = append(l, Sum(string(part)))
			}
			if got := Join(l...); got != want {
				t.Fatalf("Sum of %.20x in parts of %d = %#x; want %#x", s, size, got, want)
			}
		}
	}
}

// P3.3: of parts of an odd length nothing is said: there the bytes change their places.
func TestOddParts(t *testing.T) {
	if Sum("\x01\x02\x03\x04") != 0x0406 || Join(Sum("\x01"), Sum("\x02\x03\x04")) != 0x0703 {
		t.Error("Sum of a byte that is cut off from its word")
	}
}

// withWord is s with that word from at on; of the last byte of an odd s the upper half alone.
func withWord(s string, at int, w uint16) string {
	b := append([]byte(s), 0)
	binary.BigEndian.PutUint16(b[at:], w)
	return string(b[:len(s)])
}

func wordAt(s string, at int) uint16 {
	return binary.BigEndian.Uint16([]byte(s + "\x00")[at:])
}

func allZero(s string) bool {
	return strings.Trim(s, "\x00") == ""
}

// P3.3: where a word is another one, at any even place, Update is the new check.
func TestAnotherWord(t *testing.T) {
	for _, s := range append([]string{text(1500), text(41), text(2), text(1)}, texts...) {
		check := Check(s)
		for at := 0; at < len(s); at += 2 {
			for _, w := range edges {
				now := withWord(s, at, w)
				want := Check(now)
				if allZero(now) {
					want = updatePlain(check, wordAt(s, at), 0)
				}
				if got := Update(check, wordAt(s, at), wordAt(now, at)); got != want {
					t.Fatalf("Update of %.20x with %#x at %d = %#x; want %#x", s, w, at, got, want)
				}
			}
		}
	}
}

// P3.3: each word becomes each edge, and back again, in texts of one word and of two.
func TestEachWord(t *testing.T) {
	for _, tail := range []string{"", "\x00\x00", "\x00\x01", "\xff\xff", "\x80\x00", "\xff"} {
		for n := range 1 << 16 {
			one := withWord("ab"+tail, 0, uint16(n))
			for _, w := range edges {
				other := withWord(one, 0, w)
				if got := Update(Check(one), uint16(n), w); got != Check(other) && !allZero(other) {
					t.Fatalf("Update of %x to %x = %#x; want %#x", one, other, got, Check(other))
				}
				if got := Update(Check(other), w, uint16(n)); got != Check(one) && !allZero(one) {
					t.Fatalf("Update of %x to %x = %#x; want %#x", other, one, got, Check(one))
				}
			}
		}
	}
}

// P3.3: a text that became all 0 has a check of 65535; Update answers the other zero there.
func TestAllZero(t *testing.T) {
	for n := 1; n < 1<<16; n++ {
		was := withWord("\x00\x00\x00\x00", 2, uint16(n))
		if got := Update(Check(was), uint16(n), 0); got != 0 {
			t.Fatalf("Update of %x to all 0 = %#x; want 0", was, got)
		}
	}
	if Check("\x00\x00\x00\x00") != 65535 {
		t.Error("Check of all 0")
	}
}

// P3.3: where two words are others, Update32 is the new check, and one Update after another is.
func TestAnotherNumber(t *testing.T) {
	numbers := []uint32{0, 1, 0xffff, 0x10000, 0x12345678, 0x7fffffff, 0x80000000, 0xc0a80001, 0xffff0000, 0xfffffffe, math.MaxUint32}
	for _, s := range append([]string{text(1500), text(61), text(4)}, texts...) {
		for at := 0; at+4 <= len(s); at += 2 {
			old := binary.BigEndian.Uint32([]byte(s[at:]))
			for _, n := range numbers {
				now := withWord(withWord(s, at, uint16(n>>16)), at+2, uint16(n))
				if got, want := Update32(Check(s), old, n), Check(now); got != want && !allZero(now) {
					t.Fatalf("Update32 of %.20x with %#x at %d = %#x; want %#x", s, n, at, got, want)
				}
			}
		}
	}
}

// P3.3: a check that is gone on with through many words stays right.
func TestManyUpdates(t *testing.T) {
	s := text(1500)
	check := Check(s)
	for turn := range 5000 {
		at := turn * 38 % len(s)
		w := uint16(turn * 40503)
		if turn%5 == 0 {
			w = edges[turn%len(edges)]
		}
		check = Update(check, wordAt(s, at), w)
		s = withWord(s, at, w)
		if want := Check(s); check != want {
			t.Fatalf("after %d words: %#x; want %#x", turn+1, check, want)
		}
	}
}

// P3 of the rules: nothing that is handed in is written into, nor what is around it.
func TestNothingWritten(t *testing.T) {
	const kept = "<<\xff\xff\x80\x01\x05>>"
	room := []byte(kept)
	Sum(unsafe.String(&room[2], 5))
	Check(unsafe.String(&room[2], 5))
	if string(room) != kept {
		t.Errorf("the text that was handed in is now %q", room)
	}
	list := []uint16{9, 65535, 65535, 3, 9}
	Join(list[1:3]...)
	Join(list[1:1]...)
	if !slices.Equal(list, []uint16{9, 65535, 65535, 3, 9}) {
		t.Errorf("the list that was handed in is now %v", list)
	}
}
