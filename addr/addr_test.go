package addr

import (
	"math"
	"net/netip"
	"strings"
	"testing"
)

// numbers are bytes of one, two and three digits, at the ends of these and of the bits.
var numbers = []uint32{0, 1, 9, 10, 25, 99, 100, 127, 128, 199, 200, 249, 250, 255}

// edges are counts of bits that are right, and such as lie around these and around the ends of 64 bits.
var edges = []int{
	math.MinInt64, math.MinInt64 + 1, math.MinInt64 + 32, math.MinInt32 - 1, math.MinInt32, -256, -33, -32, -31, -8, -2, -1,
	0, 1, 2, 7, 8, 9, 15, 16, 17, 23, 24, 25, 30, 31, 32,
	33, 34, 63, 64, 65, 128, 255, 256, 256 + 8, 1<<16 + 8, math.MaxInt32, math.MaxInt32 + 1, 1<<32 - 1, 1 << 32, 1<<32 + 8, 1<<32 + 32, 1 << 62, math.MaxInt64 - 1, math.MaxInt64,
}

// textPlain says P2.1 of Text over again, in other means than the package's.
func textPlain(a uint32) string {
	return netip.AddrFrom4([4]byte{byte(a / (1 << 24)), byte(a / (1 << 16)), byte(a / (1 << 8)), byte(a)}).String()
}

func numberOf(a netip.Addr) uint32 {
	n := uint32(0)
	for _, b := range a.As4() {
		n = n*256 + uint32(b)
	}
	return n
}

// parsePlain says P2.1 of Parse over again.
func parsePlain(s string) (uint32, bool) {
	a, err := netip.ParseAddr(s)
	if err != nil || !a.Is4() {
		return 0, false
	}
	return numberOf(a), true
}

// maskPlain says P2.2 of Mask over again, bit by bit.
func maskPlain(bits int) (uint32, bool) {
	if bits < 0 || bits > 32 {
		return 0, false
	}
	m := uint32(0)
	for i := range bits {
		m += 1 << (31 - i)
	}
	return m, true
}

// parseNetPlain says P2.2 of ParseNet over again.
func parseNetPlain(s string) (Net, bool) {
	p, err := netip.ParsePrefix(s)
	if err != nil || !p.Addr().Is4() || p.Masked() != p {
		return Net{}, false
	}
	return Net{Addr: numberOf(p.Addr()), Bits: p.Bits()}, true
}

// rightPlain says P2.2 of a right net over again, bit by bit.
func rightPlain(n Net) bool {
	if n.Bits < 0 || n.Bits > 32 {
		return false
	}
	for i := n.Bits; i < 32; i++ {
		if n.Addr>>(31-i)%2 != 0 {
			return false
		}
	}
	return true
}

// hasPlain says P2.2 of Has over again, bit by bit.
func hasPlain(n Net, a uint32) bool {
	if !rightPlain(n) {
		return false
	}
	for i := range n.Bits {
		if a>>(31-i)%2 != n.Addr>>(31-i)%2 {
			return false
		}
	}
	return true
}

// manyAddrs are addresses of all bytes of numbers, in all places.
func manyAddrs() []uint32 {
	var out []uint32
	for _, a := range numbers {
		for _, b := range numbers {
			for _, c := range numbers {
				for _, d := range numbers {
					out = append(out, a<<24|b<<16|c<<8|d)
				}
			}
		}
	}
	return out
}

// fewAddrs are the ends, each bit alone, each bit left out, and a row of ones from either end.
func fewAddrs() []uint32 {
	out := []uint32{0, math.MaxUint32, 0x01020304, 0xc0a80001, 0x0a000000, 0x7f000001, 0xac100000, 0x55555555, 0xaaaaaaaa}
	for i := range 32 {
		bit := uint32(1) << i
		out = append(out, bit, ^bit, bit-1, ^(bit - 1))
	}
	return out
}

func checkParse(t *testing.T, s string) {
	t.Helper()
	want, wantOK := parsePlain(s)
	for range 2 {
		if a, ok := Parse(s); a != want || ok != wantOK {
			t.Errorf("Parse(%q) = %d, %v; want %d, %v", s, a, ok, want, wantOK)
		}
	}
}

func checkParseNet(t *testing.T, s string) {
	t.Helper()
	want, wantOK := parseNetPlain(s)
	for range 2 {
		if n, ok := ParseNet(s); n != want || ok != wantOK {
			t.Errorf("ParseNet(%q) = %v, %v; want %v, %v", s, n, ok, want, wantOK)
		}
	}
}

// P2.1: Text and Parse, by examples; P2.3: each is read as it was.
func TestAddress(t *testing.T) {
	for _, c := range []struct {
		a uint32
		s string
	}{
		{3232235521, "192.168.0.1"}, // the chapter's example
		{0, "0.0.0.0"},              // the least and the greatest
		{1, "0.0.0.1"},
		{4294967294, "255.255.255.254"},
		{4294967295, "255.255.255.255"},
		{0x01020304, "1.2.3.4"}, // the greatest byte first
		{0x04030201, "4.3.2.1"},
		{0x09633a0a, "9.99.58.10"}, // one, two and three digits
		{0x64c8f9fa, "100.200.249.250"},
		{0x0a000064, "10.0.0.100"},
		{0x80000000, "128.0.0.0"},
		{0x7fffffff, "127.255.255.255"},
		{0x00ff0000, "0.255.0.0"},
		{0x0000ff00, "0.0.255.0"},
	} {
		if s := Text(c.a); s != c.s {
			t.Errorf("Text(%d) = %q; want %q", c.a, s, c.s)
		}
		if a, ok := Parse(c.s); a != c.a || !ok {
			t.Errorf("Parse(%q) = %d, %v; want %d, true", c.s, a, ok, c.a)
		}
	}
}

// P2.1: texts of no address.
func TestParseWrong(t *testing.T) {
	for _, s := range []string{
		"", " ", ".", "..", "...", "....", "/", "0", "1", "16909060", "0x01020304", // too few numbers
		"1.2", "1.2.3", "1.2.3.", ".1.2.3", "1..3.4", "1.2..4", ".2.3.4", "1.2.3..", "0.0.0",
		"1.2.3.4.5", "0.0.0.0.0", "1.2.3.4.", ".1.2.3.4", "1..2.3.4", "1.2.3..4", "1.2.3.4..", "1.2.3.4.0", "0.1.2.3.4", // too many
		"01.2.3.4", "1.02.3.4", "1.2.03.4", "1.2.3.04", "00.0.0.0", "0.0.0.00", "000.0.0.0", "0.0.0.000", "001.2.3.4", "1.2.3.010", "1.2.3.0255", // a 0 ahead
		"256.2.3.4", "1.256.3.4", "1.2.256.4", "1.2.3.256", "1.2.3.257", "1.2.3.260", "1.2.3.300", "1.2.3.999", "1.2.3.1000", // 256 and more
		"1.2.3.2555", "1.2.3.65540", "1.2.3.4294967300", "1.2.3.18446744073709551620", "1.2.3.99999999999999999999999999",
		"-1.2.3.4", "1.-2.3.4", "1.2.-3.4", "1.2.3.-4", "-0.0.0.0", "0.0.0.-0", "+1.2.3.4", "1.2.3.+4", "0.0.0.+0", // signs
		" 1.2.3.4", "1.2.3.4 ", "1. 2.3.4", "1 .2.3.4", "1.2.3.4\n", "\t1.2.3.4", "1.2.3.4\x00", "\x001.2.3.4", "1.2.3 4", "1 2 3 4",
		"a.b.c.d", "1.2.3.a", "1.2.3.f", "1.2.3.0x4", "1.2.3.0b1", "1.2.3.0o7", "1.2.3.1_0", "1.2.3._4", "1.2.3.4_", "1.2.3.1e1", "1.2.3.4a",
		"1,2,3,4", "1:2:3:4", "1.2.3,4", "1.2.3.4:5", "1.2.3.4/8", "1.2.3.4/32", "::1", "::ffff:1.2.3.4", "1.2.3.4%eth0", "[1.2.3.4]",
		"\u0661.2.3.4", "1.2.3.\uff14", "1\uff0e2.3.4", "1.2.3.\xff", "\xff\xff\xff\xff", "\x01.\x02.\x03.\x04",
	} {
		if a, ok := Parse(s); a != 0 || ok {
			t.Errorf("Parse(%q) = %d, %v; want 0, false", s, a, ok)
		}
	}
}

// P2.1 and P2.3: what Text writes of an address is that one's, and Parse reads it as it was.
func TestAddressThereAndBack(t *testing.T) {
	for _, a := range append(manyAddrs(), fewAddrs()...) {
		s := Text(a)
		if want := textPlain(a); s != want || Text(a) != s {
			t.Fatalf("Text(%d) = %q; want %q", a, s, want)
		}
		if back, ok := Parse(s); back != a || !ok {
			t.Fatalf("Parse(%q) = %d, %v; want %d, true", s, back, ok, a)
		}
	}
}

// P2.1: each number of 0 to 1100, with and without zeros ahead, in each place.
func TestParseNumbers(t *testing.T) {
	digits := func(n int) string {
		return strings.TrimLeft(string([]byte{byte('0' + n/1000), byte('0' + n/100%10), byte('0' + n/10%10)}), "0") + string(rune('0'+n%10))
	}
	for place := range 4 {
		for n := range 1100 {
			for _, ahead := range []string{"", "0", "00", "000"} {
				parts := []string{"7", "7", "7", "7"}
				parts[place] = ahead + digits(n)
				s := strings.Join(parts, ".")
				want := uint32(0)
				right := ahead == "" && n < 256
				if right {
					want = 0x07070707 - 7<<(24-8*place) + uint32(n)<<(24-8*place)
				}
				if a, ok := Parse(s); a != want || ok != right {
					t.Fatalf("Parse(%q) = %d, %v; want %d, %v", s, a, ok, want, right)
				}
			}
		}
	}
}

// near are the texts that are s with a byte left out, another one instead, or one more.
func near(s string) []string {
	var out []string
	for i := range len(s) + 1 {
		for b := range 256 {
			c := string([]byte{byte(b)})
			out = append(out, s[:i]+c+s[i:])
			if i < len(s) {
				out = append(out, s[:i]+c+s[i+1:])
			}
		}
		if i < len(s) {
			out = append(out, s[:i]+s[i+1:])
		}
		out = append(out, s[:i], s[i:], s[i:]+s[:i])
	}
	return out
}

// short are all texts of at most size bytes of the letters.
func short(letters string, size int) []string {
	out := []string{""}
	for at := 0; at < len(out); at++ {
		if len(out[at]) < size {
			for _, c := range letters {
				out = append(out, out[at]+string(c))
			}
		}
	}
	return out
}

// P2.1 and P2.2, with P1, P2 and P4 of the rules: whatever is handed in, each call ends, twice alike, with nothing beside a false.
func TestParseNear(t *testing.T) {
	for _, s := range []string{"0.0.0.0", "1.2.3.4", "10.20.30.40", "192.168.0.1", "255.255.255.255", "100.99.9.0"} {
		for _, other := range near(s) {
			checkParse(t, other)
		}
	}
	for _, s := range []string{"0.0.0.0/0", "10.0.0.0/8", "128.0.0.0/1", "192.168.0.0/16", "1.2.3.4/32", "255.255.255.254/31"} {
		for _, other := range near(s) {
			checkParseNet(t, other)
			checkParse(t, other)
		}
	}
	for _, s := range short("01.", 9) {
		checkParse(t, s)
		checkParseNet(t, s)
	}
	for _, s := range short("0123+-/ ", 4) {
		checkParse(t, s)
		checkParseNet(t, s)
		checkParseNet(t, "0.0.0.0"+s)
		checkParseNet(t, "0.0.0.0/"+s)
		checkParseNet(t, s+"/0")
	}
}

// P1 of the rules: a long text is refused as well.
func TestLong(t *testing.T) {
	const many = 1 << 20
	for _, part := range []string{".", "/", "0", "9", "1.", "1.2.3.4", "0.0.0.0/", "/0", "\x00", "\xff"} {
		long := strings.Repeat(part, many)
		for _, s := range []string{long, "1.2.3.4" + long, "1.2.3." + long, long + "1.2.3.4", "0.0.0.0/0" + long, "0.0.0.0/" + long, long + "/0"} {
			if a, ok := Parse(s); a != 0 || ok {
				t.Errorf("Parse of many %q = %d, %v; want 0, false", part, a, ok)
			}
			if n, ok := ParseNet(s); n != (Net{}) || ok {
				t.Errorf("ParseNet of many %q = %v, %v; want nothing, false", part, n, ok)
			}
		}
	}
}

// P2.2: Mask, by examples.
func TestMask(t *testing.T) {
	for _, c := range []struct {
		bits int
		want uint32
		ok   bool
	}{
		{0, 0, true},
		{1, 0x80000000, true},
		{2, 0xc0000000, true},
		{7, 0xfe000000, true},
		{8, 0xff000000, true},
		{9, 0xff800000, true},
		{16, 0xffff0000, true},
		{24, 0xffffff00, true},
		{30, 0xfffffffc, true},
		{31, 0xfffffffe, true},
		{32, 0xffffffff, true},
		{33, 0, false}, // past the end
		{64, 0, false},
		{256 + 8, 0, false},
		{1<<32 + 8, 0, false},
		{math.MaxInt64, 0, false},
		{-1, 0, false}, // below 0
		{-8, 0, false},
		{-32, 0, false},
		{math.MinInt64, 0, false},
	} {
		if m, ok := Mask(c.bits); m != c.want || ok != c.ok {
			t.Errorf("Mask(%d) = %#x, %v; want %#x, %v", c.bits, m, ok, c.want, c.ok)
		}
	}
}

// P2.2, with P1, P2, P4 and P6 of the rules: Mask at all edges.
func TestMaskEdges(t *testing.T) {
	for _, bits := range edges {
		want, wantOK := maskPlain(bits)
		for range 2 {
			if m, ok := Mask(bits); m != want || ok != wantOK {
				t.Errorf("Mask(%d) = %#x, %v; want %#x, %v", bits, m, ok, want, wantOK)
			}
		}
	}
	for bits := -100; bits <= 100; bits++ {
		want, wantOK := maskPlain(bits)
		if m, ok := Mask(bits); m != want || ok != wantOK {
			t.Errorf("Mask(%d) = %#x, %v; want %#x, %v", bits, m, ok, want, wantOK)
		}
	}
}

// P2.2: right nets and their texts, by examples; P2.3: each is read as it was.
func TestNet(t *testing.T) {
	for _, c := range []struct {
		n Net
		s string
	}{
		{Net{}, "0.0.0.0/0"},
		{Net{0, 1}, "0.0.0.0/1"},
		{Net{0, 32}, "0.0.0.0/32"},
		{Net{0x80000000, 1}, "128.0.0.0/1"},
		{Net{0x0a000000, 8}, "10.0.0.0/8"},
		{Net{0x0a000000, 7}, "10.0.0.0/7"}, // bits of Addr that are 0 may count
		{Net{0x0a000000, 32}, "10.0.0.0/32"},
		{Net{0xac100000, 12}, "172.16.0.0/12"},
		{Net{0xc0a80000, 16}, "192.168.0.0/16"},
		{Net{0xc0a80100, 24}, "192.168.1.0/24"},
		{Net{0xfffffffe, 31}, "255.255.255.254/31"},
		{Net{0xffffffff, 32}, "255.255.255.255/32"},
		{Net{0x01020304, 30}, "1.2.3.4/30"},
	} {
		if s, ok := c.n.Text(); s != c.s || !ok {
			t.Errorf("%v.Text() = %q, %v; want %q, true", c.n, s, ok, c.s)
		}
		if n, ok := ParseNet(c.s); n != c.n || !ok {
			t.Errorf("ParseNet(%q) = %v, %v; want %v, true", c.s, n, ok, c.n)
		}
	}
}

// P2.2: a net that is not right has no text, and no address, its own neither.
func TestNetWrong(t *testing.T) {
	for _, n := range []Net{
		{1, 0}, {0x80000000, 0}, {0xffffffff, 0}, // other bits
		{0xc0000000, 1}, {0x40000000, 1}, {1, 8}, {0x0a000001, 8}, {0x0a800000, 8}, {0x0a000000, 6}, {0x01020304, 29}, {1, 31}, {0xffffffff, 31},
		{0, -1}, {0, -8}, {0, 33}, {0, 64}, {0x0a000000, 33}, {0xffffffff, 33}, {0xffffffff, -1}, // bits that are none
		{0x0a000000, 256 + 8}, {0x0a000000, 1<<32 + 8}, {0, math.MinInt64}, {0, math.MaxInt64}, {0xffffffff, math.MaxInt64},
	} {
		if s, ok := n.Text(); s != "" || ok {
			t.Errorf("%v.Text() = %q, %v; want nothing, false", n, s, ok)
		}
		for _, a := range append(fewAddrs(), n.Addr, n.Addr+1, n.Addr-1) {
			if n.Has(a) {
				t.Errorf("%v.Has(%#x); it is not right", n, a)
			}
		}
	}
}

// P2.2: texts of no right net.
func TestParseNetWrong(t *testing.T) {
	for _, s := range []string{
		"", "/", "//", "0", "0.0.0.0", "10.0.0.0", "10.0.0.0 8", "10.0.0.0.8", "10.0.0.0\\8", "10.0.0.0:8", // no `/`
		"0.0.0.0/", "10.0.0.0/", "/0", "/8", "/32", "8", // no bits, no address
		"10.0.0.0/8/8", "10.0.0.0/8/", "10.0.0.0//8", "/10.0.0.0/8", "0.0.0.0/0/", "0.0.0.0/0/0", "0.0.0.0//0", // two of them
		"10.0.0.0/08", "10.0.0.0/008", "0.0.0.0/00", "0.0.0.0/000", "1.2.3.4/032", // a 0 ahead
		"010.0.0.0/8", "10.0.0.00/8", "00.0.0.0/0",
		"10.0.0.0/33", "10.0.0.0/40", "10.0.0.0/99", "10.0.0.0/320", "0.0.0.0/33", "255.255.255.255/33", // more than 32
		"10.0.0.0/264", "10.0.0.0/4294967304", "10.0.0.0/18446744073709551624", "10.0.0.0/9223372036854775807", "10.0.0.0/9223372036854775808", "0.0.0.0/99999999999999999999999",
		"10.0.0.0/-1", "10.0.0.0/-8", "0.0.0.0/-0", "0.0.0.0/+0", "10.0.0.0/+8", "0.0.0.0/-9223372036854775808", "0.0.0.0/-9223372036854775809", // signs
		"10.0.0.1/8", "10.128.0.0/8", "11.0.0.0/7", "0.0.0.1/0", "128.0.0.0/0", "255.255.255.255/31", "1.2.3.4/29", "1.2.3.4/0", // other bits
		"256.0.0.0/8", "10.0.0/8", "10.0.0.0.0/8", "10.0.0./8", "10/8", "a.b.c.d/8", "::/0", "::1/128", "0.0.0.0/255.0.0.0", // no address, or no bits
		"10.0.0.0/a", "10.0.0.0/0x8", "10.0.0.0/8a", "10.0.0.0/1_6", "10.0.0.0/8.0", "10.0.0.0/1e1", "0.0.0.0/a", "0.0.0.0/0.0.0.0",
		" 10.0.0.0/8", "10.0.0.0/8 ", "10.0.0.0 /8", "10.0.0.0/ 8", "10.0.0.0/8\n", "10.0.0.0/8\x00", "10.0.0.0/\uff18", "0.0.0.0/\xff",
	} {
		if n, ok := ParseNet(s); n != (Net{}) || ok {
			t.Errorf("ParseNet(%q) = %v, %v; want nothing, false", s, n, ok)
		}
	}
}

// P2.2 and P2.3, with P1, P2, P4 and P6 of the rules: all edges of Bits at many addresses, right or not.
func TestNetThereAndBack(t *testing.T) {
	for _, a := range append(manyAddrs(), fewAddrs()...) {
		for _, bits := range edges {
			checkNet(t, Net{Addr: a, Bits: bits})
			if mask, ok := maskPlain(bits); ok {
				checkNet(t, Net{Addr: a & mask, Bits: bits})
			}
		}
	}
	for _, a := range fewAddrs() {
		for bits := -40; bits <= 40; bits++ {
			checkNet(t, Net{Addr: a, Bits: bits})
		}
	}
}

func checkNet(t *testing.T, n Net) {
	t.Helper()
	s, ok := n.Text()
	if !rightPlain(n) {
		if s != "" || ok {
			t.Fatalf("%v.Text() = %q, %v; it is not right", n, s, ok)
		}
		return
	}
	want := netip.PrefixFrom(netip.MustParseAddr(textPlain(n.Addr)), n.Bits).String()
	if s != want || !ok {
		t.Fatalf("%v.Text() = %q, %v; want %q, true", n, s, ok, want)
	}
	if back, ok := ParseNet(s); back != n || !ok {
		t.Fatalf("ParseNet(%q) = %v, %v; want %v, true", s, back, ok, n)
	}
}

// P2.2: each address's text with each count of bits is read just if that net is right.
func TestParseNetBits(t *testing.T) {
	for _, a := range fewAddrs() {
		for _, bits := range short("0123456789", 2) {
			checkParseNet(t, textPlain(a)+"/"+bits)
		}
	}
}

// P2.2: Has, by examples.
func TestHas(t *testing.T) {
	for _, c := range []struct {
		n    Net
		a    uint32
		want bool
	}{
		{Net{}, 0, true}, // all of them
		{Net{}, 7, true},
		{Net{}, 0xffffffff, true},
		{Net{0x80000000, 1}, 0x7fffffff, false},
		{Net{0x80000000, 1}, 0x80000000, true},
		{Net{0x80000000, 1}, 0xffffffff, true},
		{Net{0, 1}, 0x7fffffff, true},
		{Net{0, 1}, 0x80000000, false},
		{Net{0x0a000000, 8}, 0x09ffffff, false}, // the one ahead, the first, the last, the one behind
		{Net{0x0a000000, 8}, 0x0a000000, true},
		{Net{0x0a000000, 8}, 0x0affffff, true},
		{Net{0x0a000000, 8}, 0x0b000000, false},
		{Net{0xc0a80100, 24}, 0xc0a800ff, false},
		{Net{0xc0a80100, 24}, 0xc0a80100, true},
		{Net{0xc0a80100, 24}, 0xc0a801ff, true},
		{Net{0xc0a80100, 24}, 0xc0a80200, false},
		{Net{0xfffffffe, 31}, 0xfffffffd, false},
		{Net{0xfffffffe, 31}, 0xfffffffe, true},
		{Net{0xfffffffe, 31}, 0xffffffff, true},
		{Net{0xfffffffe, 31}, 0, false},
		{Net{0x01020304, 32}, 0x01020303, false}, // one alone
		{Net{0x01020304, 32}, 0x01020304, true},
		{Net{0x01020304, 32}, 0x01020305, false},
		{Net{0, 32}, 0, true},
		{Net{0, 32}, 1, false},
		{Net{0x0a000001, 8}, 0x0a000001, false}, // nets that are not right
		{Net{0x0a000001, 8}, 0x0a000002, false},
		{Net{0, -1}, 0, false},
		{Net{0, 33}, 0, false},
	} {
		if got := c.n.Has(c.a); got != c.want {
			t.Errorf("%v.Has(%#x) = %v; want %v", c.n, c.a, got, c.want)
		}
	}
}

// P2.2, with P1, P4 and P6 of the rules: Has at all edges.
func TestHasEdges(t *testing.T) {
	addrs := fewAddrs()
	for _, at := range addrs {
		for _, bits := range edges {
			for _, n := range []Net{{at, bits}, {at &^ (1<<(32-min(max(bits, 0), 32)) - 1), bits}} {
				for _, a := range addrs {
					if got, want := n.Has(a), hasPlain(n, a); got != want || n.Has(a) != got {
						t.Fatalf("%v.Has(%#x) = %v; want %v", n, a, got, want)
					}
				}
			}
		}
	}
}

// The section Ways: a net's methods are values too, of the net as it was when they were taken.
func TestMethodValues(t *testing.T) {
	n := Net{0x0a000000, 8}
	has, text := n.Has, n.Text
	n = Net{1, 8}
	if !has(0x0a000001) || has(0x0b000000) || n.Has(1) {
		t.Error("Has of a net that was changed later")
	}
	if s, ok := text(); s != "10.0.0.0/8" || !ok {
		t.Errorf("Text of a net that was changed later: %q, %v", s, ok)
	}
}
