package ip4

import (
	"encoding/binary"
	"fmt"
	"math"
	"strings"
	"testing"
	"unsafe"

	"weighbridge/api"
)

// text is one of that many bytes, which go up and down.
func text(size int) string {
	b := make([]byte, size)
	for i := range b {
		b[i] = byte(i*i*7 + i/3 + 5)
	}
	return string(b)
}

// sumPlain sums the words of an even s, byte by byte; of nothing but 0 it is 0, else 1 to 65535.
func sumPlain(s string) int {
	n := 0
	for i := 0; i < len(s); i += 2 {
		n += 256*int(s[i]) + int(s[i+1])
	}
	if n == 0 {
		return 0
	}
	return (n-1)%65535 + 1
}

// withSum is the packet s with the check that its header of that many bytes must have.
func withSum(s string, header int) string {
	b := []byte(s)
	b[10], b[11] = 0, 0
	binary.BigEndian.PutUint16(b[10:], uint16(65535-sumPlain(string(b[:header]))))
	return string(b)
}

// withWord is s with these two bytes from at on.
func withWord(s string, at, n int) string {
	b := []byte(s)
	binary.BigEndian.PutUint16(b[at:], uint16(n))
	return string(b)
}

// withByte is s with this byte there.
func withByte(s string, at, n int) string {
	b := []byte(s)
	b[at] = byte(n)
	return string(b)
}

// optsPlain says P4.1 of OptsRight over again, from behind: what begins at
// the end is right, and what begins ahead of it if what is behind its first option is.
func optsPlain(s string) bool {
	right := make([]bool, len(s)+1)
	right[len(s)] = true
	for i := len(s) - 1; i >= 0; i-- {
		switch {
		case s[i] == 0:
			right[i] = true
		case s[i] == 1:
			right[i] = right[i+1]
		case i+1 < len(s):
			n := int(s[i+1])
			right[i] = n >= 2 && i+n <= len(s) && right[i+n]
		}
	}
	return right[0]
}

// rightPlain says P4.1 of Right over again.
func rightPlain(h Header) bool {
	in := func(n, max int) bool { return n >= 0 && n <= max }
	return in(h.TOS, 255) && in(h.TTL, 255) && in(h.Proto, 255) && in(h.ID, 65535) && in(h.Flags, 7) && in(h.Frag, 8191) &&
		len(h.Opts) <= 40 && len(h.Opts)%4 == 0 && optsPlain(h.Opts)
}

// buildPlain says P4.1 of Build over again, by encoding/binary.
func buildPlain(h Header, body string) (string, api.Errno) {
	if !rightPlain(h) {
		return "", api.ErrArg
	}
	all := 20 + len(h.Opts) + len(body)
	if all > 1500 {
		return "", api.ErrLong
	}
	b := []byte{byte(0x40 + 5 + len(h.Opts)/4), byte(h.TOS)}
	b = binary.BigEndian.AppendUint16(b, uint16(all))
	b = binary.BigEndian.AppendUint16(b, uint16(h.ID))
	b = binary.BigEndian.AppendUint16(b, uint16(h.Flags*8192+h.Frag))
	b = append(b, byte(h.TTL), byte(h.Proto), 0, 0)
	b = binary.BigEndian.AppendUint32(b, h.Src)
	b = binary.BigEndian.AppendUint32(b, h.Dst)
	b = append(b, h.Opts...)
	return withSum(string(b), len(b)) + body, api.OK
}

// sizePlain says over again which of the errors up to ErrLong P4.2 asks for.
func sizePlain(s string) (header, total int, e api.Errno) {
	if len(s) < 20 {
		return 0, 0, api.ErrShort
	}
	if s[0]/16 != 4 {
		return 0, 0, api.ErrVersion
	}
	header = int(s[0]%16) * 4
	if header < 20 || header > len(s) {
		return 0, 0, api.ErrHeader
	}
	total = 256*int(s[2]) + int(s[3])
	if total < header || total > len(s) {
		return 0, 0, api.ErrLength
	}
	if total > 1500 {
		return 0, 0, api.ErrLong
	}
	return header, total, api.OK
}

// parsePlain says P4.2 of Parse over again.
func parsePlain(s string) (h Header, body string, e api.Errno) {
	header, total, e := sizePlain(s)
	if e != api.OK {
		return h, "", e
	}
	if sumPlain(s[:header]) != 65535 {
		return h, "", api.ErrSum
	}
	if !optsPlain(s[20:header]) {
		return h, "", api.ErrOption
	}
	b := []byte(s)
	h = Header{
		TOS: int(b[1]), ID: int(binary.BigEndian.Uint16(b[4:])), Flags: int(b[6] / 32), Frag: int(binary.BigEndian.Uint16(b[6:])) % 8192,
		TTL: int(b[8]), Proto: int(b[9]), Src: binary.BigEndian.Uint32(b[12:]), Dst: binary.BigEndian.Uint32(b[16:]), Opts: s[20:header],
	}
	return h, s[header:total], api.OK
}

// brief is s, or how long it is.
func brief(s string) string {
	if len(s) > 80 {
		return fmt.Sprintf("%x.. (%d bytes)", s[:80], len(s))
	}
	return fmt.Sprintf("%x", s)
}

func checkOpts(t *testing.T, s string) {
	want := optsPlain(s)
	if got := OptsRight(s); got != want || OptsRight(s) != want {
		t.Fatalf("OptsRight(%s) = %v; want %v", brief(s), got, want)
	}
}

// checkBuild holds Right and Build against what they must be, and (P4.3) what is built against what is parsed of it.
func checkBuild(t *testing.T, h Header, body string) {
	if got, want := Right(h), rightPlain(h); got != want || Right(h) != want {
		t.Fatalf("Right(%#v) = %v; want %v", h, got, want)
	}
	want, wantE := buildPlain(h, body)
	for range 2 {
		if got, e := Build(h, body); got != want || e != wantE {
			t.Fatalf("Build(%#v, %s) = %s, %d; want %s, %d", h, brief(body), brief(got), e, brief(want), wantE)
		}
	}
	if wantE != api.OK {
		return
	}
	for _, behind := range []string{"", "\x00", "behind", want} {
		x, b, e := Parse(want + behind)
		if x != h || b != body || e != api.OK {
			t.Fatalf("Build(%#v, %s) and %q behind it is parsed as %#v, %s, %d", h, brief(body), brief(behind), x, brief(b), e)
		}
		header, total, ok := Size(want + behind)
		if header != 20+len(h.Opts) || total != len(want) || !ok {
			t.Fatalf("Build(%#v, %s) and %q behind it has the sizes %d, %d, %v", h, brief(body), brief(behind), header, total, ok)
		}
	}
}

// checkParse holds Parse and Size against what they must be.
func checkParse(t *testing.T, s string) {
	h, body, want := parsePlain(s)
	for range 2 {
		if x, b, e := Parse(s); x != h || b != body || e != want {
			t.Fatalf("Parse(%s) = %#v, %s, %d; want %#v, %s, %d", brief(s), x, brief(b), e, h, brief(body), want)
		}
	}
	header, total, e := sizePlain(s)
	if x, y, ok := Size(s); x != header || y != total || ok != (e == api.OK) {
		t.Fatalf("Size(%s) = %d, %d, %v; want %d, %d, %v", brief(s), x, y, ok, header, total, e == api.OK)
	}
}

// rightOpts are options that are right, and as many bytes as a header may have.
var rightOpts = []string{
	"", "\x00\x00\x00\x00", "\x01\x01\x01\x01", "\x01\x01\x01\x00", "\x00\xff\xff\xff", "\x07\x04ab", "\x07\x03a\x01", "\x07\x02\x07\x02",
	"\x07\x02\x00\x07", "\x01\x07\x03z", "\xff\x04\x00\x00", "\x02\x04\x00\x00", "\x83\x08abcdef", "\x44\x08\x05\x00\x00\x00\x00\x00",
	"\x07\x02\x07\x02\x07\x02\x00\xff", "\x94\x04\x00\x00\x00\x07\x00\x00", "\x07\x28" + strings.Repeat("z", 38), strings.Repeat("\x01", 40),
	strings.Repeat("\x00", 40), strings.Repeat("\x09\x02", 20), strings.Repeat("\x01", 39) + "\x00", "\x00" + strings.Repeat("\x07", 39),
	strings.Repeat("\x01", 36) + "\x07\x04yz", "\x07\x27" + strings.Repeat("\x07", 37) + "\x01",
}

// wrongOpts have as many bytes as a header may have, but are not right.
var wrongOpts = []string{
	"\x07\x00\x00\x00", "\x07\x01zz", "\x07\x05zz", "\x07\xffzz", "\x01\x01\x01\x07", "\x01\x01\x07\x03", "\x02\x00\x01\x01", "\x07\x02\x07\x01",
	"\x07\x02\x07\x03", "\x07\x03z\x07", "\xff\xff\xff\xff", "\x83\x09abcdef", "\x83\x07abcde\x83", "\x07\x29" + strings.Repeat("z", 38),
	strings.Repeat("\x01", 39) + "\x02", strings.Repeat("\x01", 38) + "\x02\x03", strings.Repeat("\x09\x02", 19) + "\x09\x01", strings.Repeat("\x09\x02", 19) + "\x09\x00",
}

// headers have their fields at 0, at their greatest, and between.
var headers = []Header{
	{},
	{TTL: 64, Proto: 17, Flags: 2, Src: 0xc0a80001, Dst: 0xc0a800c7},
	{TOS: 255, ID: 65535, Flags: 7, Frag: 8191, TTL: 255, Proto: 255, Src: math.MaxUint32, Dst: math.MaxUint32},
	{TOS: 255}, {ID: 65535}, {Flags: 7}, {Frag: 8191}, {TTL: 255}, {Proto: 255}, {Src: math.MaxUint32}, {Dst: math.MaxUint32},
	{TOS: 1, ID: 2, Flags: 3, Frag: 4, TTL: 5, Proto: 6, Src: 7, Dst: 8},
	{TOS: 0x12, ID: 0x3456, Flags: 5, Frag: 0x1234, TTL: 0x78, Proto: 0x9a, Src: 0x12345678, Dst: 0x9abcdef0},
	{ID: 0xbae6}, {ID: 0xbaeb}, {ID: 0xbaea}, {Flags: 4, Frag: 1}, {Flags: 1, Frag: 4096},
}

// P4.1: options, by examples.
func TestOptsRight(t *testing.T) {
	for _, c := range []struct {
		s    string
		want bool
	}{
		{"", true}, // nothing
		{"\x00", true},
		{"\x00zz", true}, // an end, and behind it anything
		{"\x00\x07", true},
		{"\x00\x07\x01\xff", true},
		{"\x01", true},
		{"\x01\x01", true},
		{"\x01\x01\x01\x00\x07", true},
		{"\x07", false}, // its length lacks
		{"\x01\x07", false},
		{"\x07\x00", false},
		{"\x07\x01", false},
		{"\x07\x01\x01", false},
		{"\x07\x00\x00\x00", false},
		{"\x07\x02", true},
		{"\x07\x02\x07\x02", true},
		{"\x07\x02\x07", false},
		{"\x07\x03", false}, // one more than there are
		{"\x07\x03z", true}, // as many as there are
		{"\x07\x03\x07", true},
		{"\x07\x03\x07\x07", false},
		{"\x07\x04z", false},
		{"\x07\x05zz", false},
		{"\x02\x04ab\x00", true},
		{"\x02\x04ab\x00\x02", true},
		{"\x02\x04ab\x02", false},
		{"\x02\x02", true}, // the least that is neither 0 nor 1
		{"\xff\x02", true},
		{"\xff\x01", false},
		{"\xff\xff", false},
		{"\x80\x02\x01\x00", true},
		{"\x07\xff" + strings.Repeat("z", 253), true},
		{"\x07\xff" + strings.Repeat("z", 252), false},
		{"\x07\xff" + strings.Repeat("z", 254), false},
		{"\x07\xff" + strings.Repeat("\x01", 254), true},
		{strings.Repeat("\x01", 44), true}, // more than a header has room for
		{strings.Repeat("\x01", 43), true},
	} {
		if got := OptsRight(c.s); got != c.want {
			t.Errorf("OptsRight(%s) = %v; want %v", brief(c.s), got, c.want)
		}
		if optsPlain(c.s) != c.want {
			t.Errorf("the test's own answer for %s is not %v", brief(c.s), c.want)
		}
	}
}

// P4.1: all options of up to 3 bytes of which each is near an edge, each one of two bytes, and each length there is.
func TestOptsRightMany(t *testing.T) {
	for _, s := range append(append([]string{}, rightOpts...), wrongOpts...) {
		for cut := range len(s) + 1 {
			checkOpts(t, s[:cut])
			checkOpts(t, s[cut:])
		}
	}
	for n := range 1 << 16 {
		two := string([]byte{byte(n >> 8), byte(n)})
		for _, behind := range []string{"", "\x01", "z", "\x07\x02", "\x00z", "\x01\x01\x02"} {
			checkOpts(t, two+behind)
			checkOpts(t, "\x01"+two+behind)
		}
	}
	near := "\x00\x01\x02\x03\x04\x05\x06\xff"
	for n := range 1 << 18 {
		b := make([]byte, 0, 6)
		for i := range 6 {
			b = append(b, near[n>>(3*i)&7])
		}
		checkOpts(t, string(b))
	}
	for size := range 300 {
		checkOpts(t, "\x09"+string([]byte{byte(size)})+strings.Repeat("\x01", size))
		checkOpts(t, "\x09"+string([]byte{byte(size)})+strings.Repeat("\x05", max(size-2, 0)))
		checkOpts(t, "\x09"+string([]byte{byte(size)})+strings.Repeat("\x05", max(size-3, 0)))
		checkOpts(t, "\x09"+string([]byte{byte(size)})+strings.Repeat("\x05", max(size-1, 0)))
	}
	for _, long := range []string{text(1 << 20), strings.Repeat("\x01", 1<<22), strings.Repeat("\x07\x02", 1<<21), strings.Repeat("\x07\x02", 1<<21) + "\x07"} {
		checkOpts(t, long)
	}
}

// P4.1: a header is right or not, by examples: each field at its ends, and one beyond.
func TestRight(t *testing.T) {
	for _, h := range headers {
		for _, opts := range rightOpts {
			h.Opts = opts
			if !Right(h) {
				t.Errorf("Right(%#v) = false", h)
			}
		}
		for _, opts := range wrongOpts {
			h.Opts = opts
			if Right(h) {
				t.Errorf("Right(%#v) = true", h)
			}
			if s, e := Build(h, "body"); s != "" || e != api.ErrArg {
				t.Errorf("Build(%#v) = %x, %d", h, s, e)
			}
		}
	}
	for size := range 80 {
		want := size <= 40 && size%4 == 0
		for _, one := range []string{"\x00", "\x01"} {
			h := Header{Opts: strings.Repeat(one, size)}
			if got := Right(h); got != want {
				t.Errorf("Right with options of %d bytes = %v", size, got)
			}
			checkBuild(t, h, "")
		}
	}
	for _, size := range []int{44, 48, 1480, 1 << 16, 1 << 20} {
		h := Header{Opts: strings.Repeat("\x01", size)}
		if Right(h) {
			t.Errorf("Right with options of %d bytes", size)
		}
		if s, e := Build(h, ""); s != "" || e != api.ErrArg {
			t.Errorf("Build with options of %d bytes = %s, %d", size, brief(s), e)
		}
	}
}

// P4.1 and P6 of the rules: a field may be any number of 64 bits; those out of its range are refused.
func TestFieldRanges(t *testing.T) {
	for name, f := range map[string]struct {
		max  int
		with func(h *Header, n int)
	}{
		"TOS":   {255, func(h *Header, n int) { h.TOS = n }},
		"ID":    {65535, func(h *Header, n int) { h.ID = n }},
		"Flags": {7, func(h *Header, n int) { h.Flags = n }},
		"Frag":  {8191, func(h *Header, n int) { h.Frag = n }},
		"TTL":   {255, func(h *Header, n int) { h.TTL = n }},
		"Proto": {255, func(h *Header, n int) { h.Proto = n }},
	} {
		ends := []int{math.MinInt, math.MinInt + 1, -1 << 32, -65536, -256, -2, -1, 0, 1, 2, 3, 7, 8, 15, 16, 127, 128, 255, 256, 4095, 4096,
			8191, 8192, 65535, 65536, 65537, 1<<31 - 1, 1 << 31, 1 << 32, 1<<32 + 1, 1 << 62, math.MaxInt - 1, math.MaxInt, f.max - 1, f.max, f.max + 1, 2*f.max + 1}
		for _, n := range ends {
			for _, h := range headers {
				for _, opts := range []string{"", "\x07\x04ab"} {
					h.Opts = opts
					f.with(&h, n)
					want := n >= 0 && n <= f.max
					if got := Right(h); got != want {
						t.Errorf("Right with a %s of %d = %v", name, n, got)
					}
					s, e := Build(h, "body")
					if want != (e == api.OK) || !want && (s != "" || e != api.ErrArg) {
						t.Errorf("Build with a %s of %d = %x, %d", name, n, s, e)
					}
					checkBuild(t, h, "body")
				}
			}
		}
	}
}

// P4.1: packets byte by byte.
func TestBuild(t *testing.T) {
	for _, c := range []struct {
		h    Header
		body string
		want string
	}{
		{Header{}, "", "\x45\x00\x00\x14\x00\x00\x00\x00\x00\x00\xba\xeb\x00\x00\x00\x00\x00\x00\x00\x00"},
		{Header{}, "x", "\x45\x00\x00\x15\x00\x00\x00\x00\x00\x00\xba\xea\x00\x00\x00\x00\x00\x00\x00\x00x"},
		{Header{TTL: 64, Proto: 17, Flags: 2, Src: 0xc0a80001, Dst: 0xc0a800c7}, strings.Repeat("x", 95),
			"\x45\x00\x00\x73\x00\x00\x40\x00\x40\x11\xb8\x61\xc0\xa8\x00\x01\xc0\xa8\x00\xc7" + strings.Repeat("x", 95)},
		{Header{TOS: 1, ID: 0x0203, Flags: 1, Frag: 0x0405, TTL: 6, Proto: 7, Src: 0x08090a0b, Dst: 0x0c0d0e0f}, "ab",
			"\x45\x01\x00\x16\x02\x03\x24\x05\x06\x07\x62\xa9\x08\x09\x0a\x0b\x0c\x0d\x0e\x0fab"},
		{Header{TOS: 255, ID: 65535, Flags: 7, Frag: 8191, TTL: 255, Proto: 255, Src: 1, Dst: 2, Opts: "\x01\x07\x03z"}, "",
			"\x46\xff\x00\x18\xff\xff\xff\xff\xff\xff\xb4\x64\x00\x00\x00\x01\x00\x00\x00\x02\x01\x07\x03z"},
		{Header{Flags: 1}, "", "\x45\x00\x00\x14\x00\x00\x20\x00\x00\x00\x9a\xeb\x00\x00\x00\x00\x00\x00\x00\x00"},
		{Header{Frag: 8191}, "", "\x45\x00\x00\x14\x00\x00\x1f\xff\x00\x00\x9a\xec\x00\x00\x00\x00\x00\x00\x00\x00"},
		{Header{ID: 0xbaeb}, "", "\x45\x00\x00\x14\xba\xeb\x00\x00\x00\x00\x00\x00\x00\x00\x00\x00\x00\x00\x00\x00"}, // a check of 0
		{Header{ID: 0xbaec}, "", "\x45\x00\x00\x14\xba\xec\x00\x00\x00\x00\xff\xfe\x00\x00\x00\x00\x00\x00\x00\x00"}, // just carried round
		{Header{Opts: strings.Repeat("\x01", 40)}, "\x00", "\x4f\x00\x00\x3d\x00\x00\x00\x00\x00\x00\x9c\xae\x00\x00\x00\x00\x00\x00\x00\x00" + strings.Repeat("\x01", 40) + "\x00"},
	} {
		if got, e := Build(c.h, c.body); got != c.want || e != api.OK {
			t.Errorf("Build(%#v, %s) = %x, %d; want %x", c.h, brief(c.body), got, e, c.want)
		}
		checkBuild(t, c.h, c.body)
	}
}

// P4.1 and P4.3: packets with each of the options, and bodies of many lengths.
func TestBuildMany(t *testing.T) {
	for _, h := range headers {
		for _, opts := range append(append([]string{}, rightOpts...), wrongOpts...) {
			h.Opts = opts
			for _, size := range []int{0, 1, 2, 3, 4, 19, 20, 21, 235, 236, 237, 1000, 1439, 1440, 1441, 1479, 1480, 1481, 1500, 1501, 65515, 65516, 65536} {
				checkBuild(t, h, text(size))
			}
		}
	}
	for n := range 1 << 16 {
		h := Header{TOS: n % 256, ID: n, Flags: n % 8, Frag: n % 8192, TTL: n / 256, Proto: n % 251, Src: uint32(n * 65521), Dst: uint32(n * n)}
		checkBuild(t, h, "")
	}
}

// P4.1: just MaxFrame bytes in all are built; one more is ErrLong, unless the header is not right either.
func TestBuildLong(t *testing.T) {
	for _, h := range headers {
		for _, opts := range rightOpts {
			h.Opts = opts
			room := api.MaxFrame - 20 - len(opts)
			if s, e := Build(h, text(room)); len(s) != api.MaxFrame || e != api.OK {
				t.Errorf("Build of just MaxFrame bytes: %d bytes, %d", len(s), e)
			}
			for _, more := range []int{1, 2, 20, 40, 64036, 64037, 64056, 1 << 20} {
				if s, e := Build(h, strings.Repeat("x", room+more)); s != "" || e != api.ErrLong {
					t.Errorf("Build of %d bytes more than MaxFrame: %d bytes, %d", more, len(s), e)
				}
			}
		}
	}
	for _, h := range []Header{{TOS: 256}, {ID: -1}, {Flags: 8}, {Frag: 8192}, {TTL: -1}, {Proto: 256}, {Opts: "\x01"}, {Opts: "\x07\x01zz"}, {Opts: strings.Repeat("\x01", 44)}} {
		if s, e := Build(h, text(5000)); s != "" || e != api.ErrArg {
			t.Errorf("Build(%#v) of too much = %s, %d; want ErrArg, which is named first", h, brief(s), e)
		}
	}
}

// packet is a right one, of that many bytes in all.
func packet(t *testing.T, opts string, size int) string {
	h := Header{TOS: 3, ID: 0x1234, Flags: 2, TTL: 64, Proto: 6, Src: 0x0a000001, Dst: 0x0a000002, Opts: opts}
	s, e := buildPlain(h, text(size-20-len(opts)))
	if e != api.OK {
		t.Fatal(e)
	}
	return s
}

// P4.2: each error, by examples.
func TestParseErrors(t *testing.T) {
	s := packet(t, "", 40)
	o := packet(t, "\x07\x04ab", 50)
	long := withSum(withWord(s+text(2000), 2, 1501), 20)
	for _, c := range []struct {
		name string
		s    string
		want api.Errno
	}{
		{"nothing", "", api.ErrShort}, // the chapter's example
		{"one byte", s[:1], api.ErrShort},
		{"19 bytes", s[:19], api.ErrShort},
		{"just 20 bytes", packet(t, "", 20), api.OK},
		{"right", s, api.OK},
		{"right, with options", o, api.OK},
		{"version 6", withByte(s, 0, 0x65), api.ErrVersion},
		{"version 5", withByte(s, 0, 0x55), api.ErrVersion},
		{"version 3", withByte(s, 0, 0x35), api.ErrVersion},
		{"version 0", withByte(s, 0, 0x05), api.ErrVersion},
		{"version 15", withByte(s, 0, 0xf5), api.ErrVersion},
		{"another version, the sum right", withSum(withByte(s, 0, 0x65), 20), api.ErrVersion},
		{"a header of 0 bytes", withByte(s, 0, 0x40), api.ErrHeader},
		{"a header of 16 bytes", withByte(s, 0, 0x44), api.ErrHeader},
		{"a header of 16 bytes, its sum right", withSum(withByte(s, 0, 0x44), 16), api.ErrHeader},
		{"a header of 60 bytes, of 40", withByte(s, 0, 0x4f), api.ErrHeader},
		{"a header of 44 bytes, of 43", withByte(s+"abc", 0, 0x4b), api.ErrHeader},
		{"a header of 44 bytes, of 44: the total is below", withByte(s+"abcd", 0, 0x4b), api.ErrLength},
		{"a header of 24 bytes, of 20", withByte(s[:20], 0, 0x46), api.ErrHeader},
		{"a header of 24 bytes, of 23", withByte(s[:23], 0, 0x46), api.ErrHeader},
		{"a total of 0", withSum(withWord(s, 2, 0), 20), api.ErrLength},
		{"a total of 19", withSum(withWord(s, 2, 19), 20), api.ErrLength},
		{"a total of 20", withSum(withWord(s, 2, 20), 20), api.OK},
		{"a total of 23, a header of 24", withSum(withWord(o, 2, 23), 24), api.ErrLength},
		{"a total of 24, a header of 24", withSum(withWord(o, 2, 24), 24), api.OK},
		{"a total of 40, of 40", s, api.OK},
		{"a total of 40, of 39", s[:39], api.ErrLength},
		{"a total of 40, of 20", s[:20], api.ErrLength},
		{"a total of 41, of 40", withSum(withWord(s, 2, 41), 20), api.ErrLength},
		{"a total of 65535, of 40", withSum(withWord(s, 2, 65535), 20), api.ErrLength},
		{"a total of 1500", packet(t, "", 1500), api.OK},
		{"a total of 1500, of 1499", packet(t, "", 1500)[:1499], api.ErrLength},
		{"a total of 1501", long, api.ErrLong},
		{"a total of 1501, of 1501", long[:1501], api.ErrLong},
		{"a total of 1501, of 1500", long[:1500], api.ErrLength},
		{"a total of 65535", withSum(withWord(s+text(70000), 2, 65535), 20), api.ErrLong},
		{"a total of 1500, of many more", withSum(withWord(s+text(2000), 2, 1500), 20), api.OK},
		{"another sum", withWord(s, 10, 0), api.ErrSum},
		{"another life", withByte(s, 8, 65), api.ErrSum},
		{"another byte of the options", withByte(o, 23, 'z'), api.ErrSum},
		{"another byte of the body", withByte(s, 20, 'z'), api.OK},
		{"options that are not right", withSum(withByte(o, 21, 5), 24), api.ErrOption},
		{"options whose length is 1", withSum(withByte(o, 21, 1), 24), api.ErrOption},
		{"options whose length lacks", withSum(o[:20]+"\x01\x01\x01\x07"+o[24:], 24), api.ErrOption},
		{"options that go on into the body", withSum(withByte(o, 21, 6), 24), api.ErrOption},
	} {
		h, body, e := Parse(c.s)
		if e != c.want || e != api.OK && (h != Header{} || body != "") {
			t.Errorf("%s: Parse = %#v, %s, %d; want %d", c.name, h, brief(body), e, c.want)
		}
		checkParse(t, c.s)
	}
}

// P4.2: of two errors and more the first is told; each is mended in turn, and the next one comes.
func TestFirstError(t *testing.T) {
	s := "\x33\x00\x00\x10\x00\x00\x00\x00\x00\x00\x00\x00\x00\x00\x00\x00\x00\x00\x00"
	for _, c := range []struct {
		mend func(s string) string
		want api.Errno
	}{
		{func(s string) string { return s }, api.ErrShort},
		{func(s string) string { return s + "\x00" + "\x07\x05ab" }, api.ErrVersion},
		{func(s string) string { return withByte(s, 0, 0x43) }, api.ErrHeader},
		{func(s string) string { return withByte(s, 0, 0x47) }, api.ErrHeader},
		{func(s string) string { return withByte(s, 0, 0x46) }, api.ErrLength},
		{func(s string) string { return withWord(s, 2, 5000) }, api.ErrLength},
		{func(s string) string { return s + text(6000) }, api.ErrLong},
		{func(s string) string { return withWord(s, 2, 1500) }, api.ErrSum},
		{func(s string) string { return withSum(s, 24) }, api.ErrOption},
		{func(s string) string { return withSum(withByte(s, 21, 4), 24) }, api.OK},
	} {
		s = c.mend(s)
		if _, _, e := Parse(s); e != c.want {
			t.Errorf("Parse(%s): %d; want %d", brief(s), e, c.want)
		}
		checkParse(t, s)
	}
}

// P4.2: a right packet of which each byte in turn is each other one, with the sum as it was, and right.
func TestParseMany(t *testing.T) {
	for _, s := range []string{
		packet(t, "", 20), packet(t, "", 45), packet(t, "\x07\x04ab", 24), packet(t, "\x01\x07\x03z", 64), packet(t, strings.Repeat("\x01", 40), 60),
		packet(t, "\x07\x28"+strings.Repeat("\x02", 38), 100), packet(t, "", 20) + text(1600), packet(t, "", 1500), packet(t, "", 1500) + text(70),
	} {
		for at := range min(len(s), 64) {
			for n := range 256 {
				other := withByte(s, at, n)
				checkParse(t, other)
				if header := int(other[0]%16) * 4; header >= 12 && header <= len(s) {
					checkParse(t, withSum(other, header))
				}
			}
		}
		for cut := range len(s) + 1 {
			checkParse(t, s[:cut])
		}
	}
}

// P4.2: each total and each size of a header, on as many bytes as the edges ask for.
func TestParseSizes(t *testing.T) {
	all := text(65600)
	for n := range 1 << 16 {
		if n > 1600 && n < 65500 && n%997 != 0 {
			continue
		}
		for _, size := range []int{20, n - 1, n, n + 1, len(all)} {
			if size >= 20 {
				checkParse(t, withSum(withWord("\x45"+all[1:size], 2, n), 20))
			}
		}
	}
	for units := range 16 {
		for size := 20; size < 70; size++ {
			for total := range size + 3 {
				s := withWord(withByte(strings.Repeat("\x01", size), 0, 0x40+units), 2, total)
				checkParse(t, s)
				if header := 4 * units; header >= 12 && header <= size {
					checkParse(t, withSum(s, header))
				}
			}
		}
	}
}

// P4.2: each check that there is, on headers of which some have two that are right, 0 and 65535.
func TestParseChecks(t *testing.T) {
	for _, c := range []struct {
		s          string
		rightCount int
	}{
		{"\x45\x00\x00\x14" + strings.Repeat("\x00", 16), 1},
		{"\x45\x00\x00\x14\xba\xea" + strings.Repeat("\x00", 14), 1},
		{"\x45\x00\x00\x14\xba\xeb" + strings.Repeat("\x00", 14), 2},
		{"\x45\x00\x00\x14\xba\xec" + strings.Repeat("\x00", 14), 1},
		{packet(t, "\x07\x04ab", 50), 1},
		{"\x46\x00\x00\x18" + strings.Repeat("\x00", 16) + "\x07\x01\xb2\xe6", 2},
	} {
		count := 0
		for n := range 1 << 16 {
			s := withWord(c.s, 10, n)
			checkParse(t, s)
			if _, _, e := Parse(s); e != api.ErrSum {
				count++
			}
		}
		if count != c.rightCount {
			t.Errorf("%x: %d checks are right; want %d", c.s, count, c.rightCount)
		}
	}
	s := "\x45\x00\x00\x14\xba\xeb\x00\x00\x00\x00\xff\xff\x00\x00\x00\x00\x00\x00\x00\x00"
	if h, _, e := Parse(s); e != api.OK || h != (Header{ID: 0xbaeb}) {
		t.Errorf("Parse of a check of 65535 for 0: %#v, %d: the Sum is 65535", h, e)
	}
}

// P4.2: Size asks neither for the sum nor for the options, but for all that is ahead of them.
func TestSize(t *testing.T) {
	s := packet(t, "\x07\x04ab", 50)
	for _, c := range []struct {
		name          string
		s             string
		header, total int
		ok            bool
	}{
		{"right", s, 24, 50, true},
		{"something behind", s + "behind", 24, 50, true},
		{"another sum", withWord(s, 10, 0), 24, 50, true},
		{"another sum, and options", withByte(withWord(s, 10, 0), 21, 1), 24, 50, true},
		{"options that are not right", withSum(withByte(s, 21, 5), 24), 24, 50, true},
		{"MaxFrame", packet(t, "", 1500), 20, 1500, true},
		{"the least", packet(t, "", 20), 20, 20, true},
		{"the greatest header", packet(t, strings.Repeat("\x01", 40), 60), 60, 60, true},
		{"nothing", "", 0, 0, false},
		{"19 bytes", s[:19], 0, 0, false},
		{"another version", withByte(s, 0, 0x66), 0, 0, false},
		{"a header of 16", withByte(s, 0, 0x44), 0, 0, false},
		{"a header above what there is", withByte(s, 0, 0x4f), 0, 0, false},
		{"a total below the header", withWord(s, 2, 23), 0, 0, false},
		{"a total above what there is", withWord(s, 2, 51), 0, 0, false},
		{"a total of the header", withWord(s, 2, 24), 24, 24, true},
		{"above MaxFrame", withWord(s+text(2000), 2, 1501), 0, 0, false},
		{"above MaxFrame, the sum right", withSum(withWord(s+text(2000), 2, 1501), 24), 0, 0, false},
	} {
		if header, total, ok := Size(c.s); header != c.header || total != c.total || ok != c.ok {
			t.Errorf("%s: Size = %d, %d, %v; want %d, %d, %v", c.name, header, total, ok, c.header, c.total, c.ok)
		}
		checkParse(t, c.s)
	}
}

// P4.3: what stands behind the total does not count, be it anything, and as much as there may be.
func TestBehind(t *testing.T) {
	h := Header{TOS: 9, ID: 77, Flags: 1, Frag: 5, TTL: 1, Proto: 1, Src: 0xffffffff, Dst: 0x80000000, Opts: "\x00abc"}
	for _, size := range []int{0, 1, 7, 1475, 1476} {
		s, e := Build(h, text(size))
		if e != api.OK {
			t.Fatal(e)
		}
		for _, behind := range []string{"", "\x00", "\xff", strings.Repeat("\x00", 46), text(1500), s, text(1 << 20)} {
			x, body, e := Parse(s + behind)
			if x != h || body != text(size) || e != api.OK {
				t.Errorf("a body of %d bytes, and %s behind: %#v, %s, %d", size, brief(behind), x, brief(body), e)
			}
			if header, total, ok := Size(s + behind); header != 24 || total != len(s) || !ok {
				t.Errorf("a body of %d bytes, and %s behind: Size = %d, %d, %v", size, brief(behind), header, total, ok)
			}
		}
	}
}

// P4.3: what is parsed is built as it was, where its check is the one that Build makes.
func TestBuiltAgain(t *testing.T) {
	for _, opts := range rightOpts {
		for _, size := range []int{20 + len(opts), 61, 1499, 1500} {
			s := packet(t, opts, max(size, 20+len(opts)))
			h, body, e := Parse(s + "behind")
			if e != api.OK {
				t.Fatal(e)
			}
			if again, e := Build(h, body); again != s || e != api.OK {
				t.Errorf("%s is built again as %s, %d", brief(s), brief(again), e)
			}
		}
	}
}

// The way of the chapter: a header's fields are gone through by a function that may be left, and gone through again.
func TestFields(t *testing.T) {
	f := fixedOf(Header{TOS: 1, ID: 2, Flags: 3, Frag: 4, TTL: 5, Proto: 6, Src: 7, Dst: 8, Opts: "\x01\x01\x01\x01"})
	want := []int{4, 6, 1, 0, 2, 3, 4, 5, 6, 0, 7, 8}
	for leave := 1; leave <= len(want)+1; leave++ {
		count, bitsInAll := 0, 0
		for bits, n := range f.fields() {
			if *n != want[count] {
				t.Errorf("field %d is %d; want %d", count, *n, want[count])
			}
			bitsInAll += bits
			if count++; count == leave {
				break
			}
		}
		if count != min(leave, len(want)) || leave >= len(want) && bitsInAll != 160 {
			t.Errorf("left after %d: %d fields of %d bits", leave, count, bitsInAll)
		}
	}
}

// P3 of the rules: nothing that is handed in is written into, nor kept: what is written there afterwards changes no answer.
func TestNothingKept(t *testing.T) {
	s := packet(t, "\x07\x04ab", 50)
	room := []byte("<<" + s + ">>")
	h, body, e := Parse(unsafe.String(&room[2], len(s)))
	Size(unsafe.String(&room[2], len(s)))
	OptsRight(unsafe.String(&room[22], 4))
	if string(room) != "<<"+s+">>" {
		t.Errorf("the packet that was handed in is now %x", room)
	}
	clear(room)
	if h.Opts != "\x07\x04ab" || body != s[24:] || e != api.OK {
		t.Errorf("what was parsed became %#v, %x", h, body)
	}

	opts, text := []byte("\x07\x04ab"), []byte("body")
	h.Opts = unsafe.String(&opts[0], len(opts))
	built, e := Build(h, unsafe.String(&text[0], len(text)))
	if string(opts) != "\x07\x04ab" || string(text) != "body" || e != api.OK {
		t.Errorf("what was handed in is now %x, %x", opts, text)
	}
	clear(opts)
	clear(text)
	if built[20:] != "\x07\x04abbody" {
		t.Errorf("what was built became %x", built)
	}
}

// P2 and P3 of the rules: no answer shares memory with what is handed in, be it as short as it may.
func TestShortAnswers(t *testing.T) {
	for _, opts := range []string{"", "\x01\x01\x01\x01"} {
		for size := 20 + len(opts); size < 24+len(opts); size++ {
			room := []byte(packet(t, opts, size))
			want := string(room[20+len(opts):])
			h, body, e := Parse(unsafe.String(&room[0], len(room)))
			clear(room)
			if h.Opts != opts || body != want || e != api.OK {
				t.Errorf("options %x, %d bytes: %#v, %x, %d", opts, size, h, body, e)
			}
		}
	}
}
