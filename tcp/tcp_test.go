package tcp

import (
	"encoding/binary"
	"fmt"
	"math"
	"strings"
	"testing"
	"unsafe"

	"weighbridge/api"
)

// some is a text of that many bytes, which go up and down.
func some(size int) string {
	b := make([]byte, size)
	for i := range b {
		b[i] = byte(i*i*7 + i/3 + 5)
	}
	return string(b)
}

// withWord is s with these two bytes from at on.
func withWord(s string, at, n int) string {
	b := []byte(s)
	binary.BigEndian.PutUint16(b[at:], uint16(n))
	return string(b)
}

// withByte is s with this byte there.
func withByte(s string, at, n int) string {
	b := []byte(s)
	b[at] = byte(n)
	return string(b)
}

// optsPlain says P4.1 of OptsRight over again, from behind: what begins at
// the end is right, and what begins ahead of it if what is behind its first option is.
func optsPlain(s string) bool {
	right := make([]bool, len(s)+1)
	right[len(s)] = true
	for i := len(s) - 1; i >= 0; i-- {
		switch {
		case s[i] == 0:
			right[i] = true
		case s[i] == 1:
			right[i] = right[i+1]
		case i+1 < len(s):
			n := int(s[i+1])
			right[i] = n >= 2 && i+n <= len(s) && right[i+n]
		}
	}
	return right[0]
}

// rightPlain says P5.1 of Right over again.
func rightPlain(h Header) bool {
	in := func(n, max int) bool { return n >= 0 && n <= max }
	return in(h.SrcPort, 65535) && in(h.DstPort, 65535) && in(h.Window, 65535) && in(h.Urgent, 65535) && in(h.Flags, 4095) &&
		len(h.Opts) <= 40 && len(h.Opts)%4 == 0 && optsPlain(h.Opts)
}

// buildPlain says P5.1 of Build over again, by encoding/binary.
func buildPlain(h Header, body string) (string, api.Errno) {
	if !rightPlain(h) {
		return "", api.ErrArg
	}
	if 20+len(h.Opts)+len(body) > 1500 {
		return "", api.ErrLong
	}
	b := binary.BigEndian.AppendUint16(nil, uint16(h.SrcPort))
	b = binary.BigEndian.AppendUint16(b, uint16(h.DstPort))
	b = binary.BigEndian.AppendUint32(b, h.Seq)
	b = binary.BigEndian.AppendUint32(b, h.AckNum)
	b = binary.BigEndian.AppendUint16(b, uint16(4096*(5+len(h.Opts)/4)+h.Flags))
	b = binary.BigEndian.AppendUint16(b, uint16(h.Window))
	b = append(b, 0, 0)
	b = binary.BigEndian.AppendUint16(b, uint16(h.Urgent))
	return string(b) + h.Opts + body, api.OK
}

// parsePlain says P5.1 of Parse over again.
func parsePlain(s string) (h Header, body string, e api.Errno) {
	if len(s) < 20 {
		return h, "", api.ErrShort
	}
	size := int(s[12]/16) * 4
	if size < 20 || size > len(s) {
		return h, "", api.ErrHeader
	}
	if !optsPlain(s[20:size]) {
		return h, "", api.ErrOption
	}
	b := []byte(s[:20])
	h = Header{
		SrcPort: int(binary.BigEndian.Uint16(b)), DstPort: int(binary.BigEndian.Uint16(b[2:])),
		Seq: binary.BigEndian.Uint32(b[4:]), AckNum: binary.BigEndian.Uint32(b[8:]),
		Flags: int(b[12]%16)*256 + int(b[13]), Window: int(binary.BigEndian.Uint16(b[14:])), Urgent: int(binary.BigEndian.Uint16(b[18:])),
		Opts: s[20:size],
	}
	return h, s[size:], api.OK
}

// brief is s, or how long it is.
func brief(s string) string {
	if len(s) > 80 {
		return fmt.Sprintf("%x.. (%d bytes)", s[:80], len(s))
	}
	return fmt.Sprintf("%x", s)
}

func checkOpts(t *testing.T, s string) {
	want := optsPlain(s)
	if got := OptsRight(s); got != want || OptsRight(s) != want {
		t.Fatalf("OptsRight(%s) = %v; want %v", brief(s), got, want)
	}
}

// checkBuild holds Right and Build against what they must be, and (P5.3) what is built against what is parsed of it.
func checkBuild(t *testing.T, h Header, body string) {
	if got, want := Right(h), rightPlain(h); got != want || Right(h) != want {
		t.Fatalf("Right(%#v) = %v; want %v", h, got, want)
	}
	want, wantE := buildPlain(h, body)
	for range 2 {
		if got, e := Build(h, body); got != want || e != wantE {
			t.Fatalf("Build(%#v, %s) = %s, %d; want %s, %d", h, brief(body), brief(got), e, brief(want), wantE)
		}
	}
	if wantE != api.OK {
		return
	}
	if x, b, e := Parse(want); x != h || b != body || e != api.OK {
		t.Fatalf("Build(%#v, %s) is parsed as %#v, %s, %d", h, brief(body), x, brief(b), e)
	}
}

// checkParse holds Parse against what it must be.
func checkParse(t *testing.T, s string) {
	h, body, want := parsePlain(s)
	for range 2 {
		if x, b, e := Parse(s); x != h || b != body || e != want {
			t.Fatalf("Parse(%s) = %#v, %s, %d; want %#v, %s, %d", brief(s), x, brief(b), e, h, brief(body), want)
		}
	}
}

// rightOpts are options that are right, and as many bytes as a header may have.
var rightOpts = []string{
	"", "\x00\x00\x00\x00", "\x01\x01\x01\x01", "\x01\x01\x01\x00", "\x00\xff\xff\xff", "\x02\x04\x05\xb4", "\x03\x03\x07\x01", "\x04\x02\x04\x02",
	"\x04\x02\x00\x07", "\x01\x03\x03\x07", "\xff\x04\x00\x00", "\x02\x04\x00\x00", "\x05\x08abcdef", "\x01\x01\x08\x0aabcdefgh", "\x04\x02\x04\x02\x04\x02\x00\xff",
	"\x02\x04\x05\xb4\x04\x02\x08\x0aabcdefgh\x01\x03\x03\x07", "\x1e\x28" + strings.Repeat("z", 38), strings.Repeat("\x01", 40),
	strings.Repeat("\x00", 40), strings.Repeat("\x04\x02", 20), strings.Repeat("\x01", 39) + "\x00", "\x00" + strings.Repeat("\x07", 39),
	strings.Repeat("\x01", 36) + "\x07\x04yz", "\x07\x27" + strings.Repeat("\x07", 37) + "\x01",
}

// wrongOpts have as many bytes as a header may have, but are not right.
var wrongOpts = []string{
	"\x07\x00\x00\x00", "\x07\x01zz", "\x07\x05zz", "\x07\xffzz", "\x01\x01\x01\x07", "\x01\x01\x07\x03", "\x02\x00\x01\x01", "\x07\x02\x07\x01",
	"\x07\x02\x07\x03", "\x07\x03z\x07", "\xff\xff\xff\xff", "\x05\x09abcdef", "\x05\x07abcde\x05", "\x07\x29" + strings.Repeat("z", 38),
	strings.Repeat("\x01", 39) + "\x02", strings.Repeat("\x01", 38) + "\x02\x03", strings.Repeat("\x04\x02", 19) + "\x04\x01", strings.Repeat("\x04\x02", 19) + "\x04\x00",
}

// headers have their fields at 0, at their greatest, and between.
var headers = []Header{
	{},
	{SrcPort: 40000, DstPort: 443, Seq: 0x12345678, AckNum: 0x9abcdef0, Flags: Ack | Psh, Window: 501},
	{SrcPort: 65535, DstPort: 65535, Seq: math.MaxUint32, AckNum: math.MaxUint32, Flags: 4095, Window: 65535, Urgent: 65535},
	{SrcPort: 65535}, {DstPort: 65535}, {Seq: math.MaxUint32}, {AckNum: math.MaxUint32}, {Flags: 4095}, {Window: 65535}, {Urgent: 65535},
	{SrcPort: 1, DstPort: 2, Seq: 3, AckNum: 4, Flags: 5, Window: 6, Urgent: 7},
	{SrcPort: 0x0102, DstPort: 0x0304, Seq: 0x05060708, AckNum: 0x090a0b0c, Flags: 0xd0e, Window: 0x0f10, Urgent: 0x1112},
	{Seq: 1 << 31}, {AckNum: 1 << 31}, {Flags: 2048}, {Flags: 256}, {Flags: 255},
}

// P5.1: options, by examples; they are right or not by the words of P4.1.
func TestOptsRight(t *testing.T) {
	for _, c := range []struct {
		s    string
		want bool
	}{
		{"", true}, // nothing
		{"\x00", true},
		{"\x00zz", true}, // an end, and behind it anything
		{"\x00\x07", true},
		{"\x00\x07\x01\xff", true},
		{"\x01", true},
		{"\x01\x01", true},
		{"\x01\x01\x01\x00\x07", true},
		{"\x07", false}, // its length lacks
		{"\x01\x07", false},
		{"\x07\x00", false},
		{"\x07\x01", false},
		{"\x07\x01\x01", false},
		{"\x07\x00\x00\x00", false},
		{"\x04\x02", true},
		{"\x04\x02\x04\x02", true},
		{"\x04\x02\x04", false},
		{"\x03\x03", false},    // one more than there are
		{"\x03\x03\x07", true}, // as many as there are
		{"\x03\x03\x07\x07", false},
		{"\x02\x04\x05", false},
		{"\x02\x04\x05\xb4", true},
		{"\x02\x05\x05\xb4", false},
		{"\x02\x04\x05\xb4\x00", true},
		{"\x02\x04\x05\xb4\x00\x02", true},
		{"\x02\x04\x05\xb4\x02", false},
		{"\x02\x02", true}, // the least that is neither 0 nor 1
		{"\xff\x02", true},
		{"\xff\x01", false},
		{"\xff\xff", false},
		{"\x80\x02\x01\x00", true},
		{"\x07\xff" + strings.Repeat("z", 253), true},
		{"\x07\xff" + strings.Repeat("z", 252), false},
		{"\x07\xff" + strings.Repeat("z", 254), false},
		{"\x07\xff" + strings.Repeat("\x01", 254), true},
		{strings.Repeat("\x01", 44), true}, // more than a header has room for
		{strings.Repeat("\x01", 43), true},
	} {
		if got := OptsRight(c.s); got != c.want {
			t.Errorf("OptsRight(%s) = %v; want %v", brief(c.s), got, c.want)
		}
		if optsPlain(c.s) != c.want {
			t.Errorf("the test's own answer for %s is not %v", brief(c.s), c.want)
		}
	}
}

// P5.1: options of two bytes, each one; of six of which each is near an edge; each length there is; long ones.
func TestOptsRightMany(t *testing.T) {
	for _, s := range append(append([]string{}, rightOpts...), wrongOpts...) {
		for cut := range len(s) + 1 {
			checkOpts(t, s[:cut])
			checkOpts(t, s[cut:])
		}
	}
	for n := range 1 << 16 {
		two := string([]byte{byte(n >> 8), byte(n)})
		for _, behind := range []string{"", "\x01", "z", "\x04\x02", "\x00z", "\x01\x01\x02"} {
			checkOpts(t, two+behind)
			checkOpts(t, "\x01"+two+behind)
		}
	}
	near := "\x00\x01\x02\x03\x04\x05\x06\xff"
	for n := range 1 << 18 {
		b := make([]byte, 0, 6)
		for i := range 6 {
			b = append(b, near[n>>(3*i)&7])
		}
		checkOpts(t, string(b))
	}
	for size := range 300 {
		for _, behind := range []int{size - 3, size - 2, size - 1, size} {
			checkOpts(t, "\x09"+string([]byte{byte(size)})+strings.Repeat("\x05", max(behind, 0)))
			checkOpts(t, "\x09"+string([]byte{byte(size)})+strings.Repeat("\x01", max(behind, 0)))
		}
	}
	for _, long := range []string{some(1 << 20), strings.Repeat("\x01", 1<<22), strings.Repeat("\x04\x02", 1<<21), strings.Repeat("\x04\x02", 1<<21) + "\x07"} {
		checkOpts(t, long)
	}
}

// P5.1: a header is right or not by its options: right ones and wrong ones, and each number of bytes.
func TestRight(t *testing.T) {
	for _, h := range headers {
		for _, opts := range rightOpts {
			h.Opts = opts
			if !Right(h) {
				t.Errorf("Right(%#v) = false", h)
			}
		}
		for _, opts := range wrongOpts {
			h.Opts = opts
			if Right(h) {
				t.Errorf("Right(%#v) = true", h)
			}
			if s, e := Build(h, "body"); s != "" || e != api.ErrArg {
				t.Errorf("Build(%#v) = %x, %d", h, s, e)
			}
		}
	}
	for size := range 80 {
		want := size <= 40 && size%4 == 0
		for _, one := range []string{"\x00", "\x01"} {
			h := Header{Opts: strings.Repeat(one, size)}
			if got := Right(h); got != want {
				t.Errorf("Right with options of %d bytes = %v", size, got)
			}
			checkBuild(t, h, "")
		}
	}
	for _, size := range []int{44, 48, 1480, 1 << 16, 1 << 20} {
		h := Header{Opts: strings.Repeat("\x01", size)}
		if Right(h) {
			t.Errorf("Right with options of %d bytes", size)
		}
		if s, e := Build(h, ""); s != "" || e != api.ErrArg {
			t.Errorf("Build with options of %d bytes = %s, %d", size, brief(s), e)
		}
	}
}

// P5.1 and P6 of the rules: a field may be any number of 64 bits; those out of its range are refused.
func TestFieldRanges(t *testing.T) {
	for name, f := range map[string]struct {
		max  int
		with func(h *Header, n int)
	}{
		"SrcPort": {65535, func(h *Header, n int) { h.SrcPort = n }},
		"DstPort": {65535, func(h *Header, n int) { h.DstPort = n }},
		"Flags":   {4095, func(h *Header, n int) { h.Flags = n }},
		"Window":  {65535, func(h *Header, n int) { h.Window = n }},
		"Urgent":  {65535, func(h *Header, n int) { h.Urgent = n }},
	} {
		ends := []int{math.MinInt, math.MinInt + 1, -1 << 32, -65536, -4096, -2, -1, 0, 1, 2, 63, 64, 255, 256, 4095, 4096, 8191, 8192,
			65535, 65536, 65537, 1<<31 - 1, 1 << 31, 1<<32 - 1, 1 << 32, 1<<32 + 1, 1 << 62, math.MaxInt - 1, math.MaxInt, f.max - 1, f.max, f.max + 1, 2*f.max + 1}
		for _, n := range ends {
			for _, h := range headers {
				for _, opts := range []string{"", "\x02\x04ab"} {
					h.Opts = opts
					f.with(&h, n)
					want := n >= 0 && n <= f.max
					if got := Right(h); got != want {
						t.Errorf("Right with a %s of %d = %v", name, n, got)
					}
					s, e := Build(h, "body")
					if want != (e == api.OK) || !want && (s != "" || e != api.ErrArg) {
						t.Errorf("Build with a %s of %d = %x, %d", name, n, s, e)
					}
					checkBuild(t, h, "body")
				}
			}
		}
	}
}

// P5.1: segments byte by byte.
func TestBuild(t *testing.T) {
	for _, c := range []struct {
		h    Header
		body string
		want string
	}{
		{Header{}, "", "\x00\x00\x00\x00\x00\x00\x00\x00\x00\x00\x00\x00\x50\x00\x00\x00\x00\x00\x00\x00"},
		{Header{}, "x", "\x00\x00\x00\x00\x00\x00\x00\x00\x00\x00\x00\x00\x50\x00\x00\x00\x00\x00\x00\x00x"},
		{Header{SrcPort: 0x0102, DstPort: 0x0304, Seq: 0x05060708, AckNum: 0x090a0b0c, Flags: 0xd0e, Window: 0x0f10, Urgent: 0x1112}, "ab",
			"\x01\x02\x03\x04\x05\x06\x07\x08\x09\x0a\x0b\x0c\x5d\x0e\x0f\x10\x00\x00\x11\x12ab"},
		{Header{SrcPort: 40000, DstPort: 80, Seq: 1000, Flags: Syn, Window: 64240, Opts: "\x02\x04\x05\xb4\x04\x02\x01\x00"}, "",
			"\x9c\x40\x00\x50\x00\x00\x03\xe8\x00\x00\x00\x00\x70\x02\xfa\xf0\x00\x00\x00\x00\x02\x04\x05\xb4\x04\x02\x01\x00"},
		{Header{SrcPort: 65535, DstPort: 65535, Seq: math.MaxUint32, AckNum: math.MaxUint32, Flags: 4095, Window: 65535, Urgent: 65535, Opts: strings.Repeat("\x01", 40)}, "\x00",
			"\xff\xff\xff\xff\xff\xff\xff\xff\xff\xff\xff\xff\xff\xff\xff\xff\x00\x00\xff\xff" + strings.Repeat("\x01", 40) + "\x00"},
		{Header{Flags: 4095}, "", "\x00\x00\x00\x00\x00\x00\x00\x00\x00\x00\x00\x00\x5f\xff\x00\x00\x00\x00\x00\x00"},
		{Header{Opts: "\x01\x01\x01\x01"}, "", "\x00\x00\x00\x00\x00\x00\x00\x00\x00\x00\x00\x00\x60\x00\x00\x00\x00\x00\x00\x00\x01\x01\x01\x01"},
	} {
		if got, e := Build(c.h, c.body); got != c.want || e != api.OK {
			t.Errorf("Build(%#v, %s) = %x, %d; want %x", c.h, brief(c.body), got, e, c.want)
		}
		if x, body, e := Parse(c.want); x != c.h || body != c.body || e != api.OK {
			t.Errorf("Parse(%x) = %#v, %x, %d; want %#v, %x", c.want, x, body, e, c.h, c.body)
		}
		checkBuild(t, c.h, c.body)
	}
}

// P5.1 and P5.3: segments with each of the options, and bodies of many lengths; each number of 16 bits in each field.
func TestBuildMany(t *testing.T) {
	for _, h := range headers {
		for _, opts := range append(append([]string{}, rightOpts...), wrongOpts...) {
			h.Opts = opts
			for _, size := range []int{0, 1, 2, 3, 4, 19, 20, 21, 235, 236, 237, 1000, 1439, 1440, 1441, 1479, 1480, 1481, 1500, 1501, 65515, 65516, 65536} {
				checkBuild(t, h, some(size))
			}
		}
	}
	for n := range 1 << 16 {
		h := Header{SrcPort: n, DstPort: 65535 - n, Seq: uint32(n * 65521), AckNum: uint32(n * n), Flags: n % 4096, Window: n * 7 % 65536, Urgent: n * 31 % 65536}
		checkBuild(t, h, "")
	}
}

// P5.1: just MaxFrame bytes in all are built; one more is ErrLong, unless the header is not right either.
func TestBuildLong(t *testing.T) {
	for _, h := range headers {
		for _, opts := range rightOpts {
			h.Opts = opts
			room := api.MaxFrame - 20 - len(opts)
			s, e := Build(h, some(room))
			if len(s) != api.MaxFrame || e != api.OK {
				t.Errorf("Build of just MaxFrame bytes: %d bytes, %d", len(s), e)
			}
			if x, body, e := Parse(s); x != h || body != some(room) || e != api.OK {
				t.Errorf("Parse of just MaxFrame bytes: %#v, %s, %d", x, brief(body), e)
			}
			for _, more := range []int{1, 2, 20, 40, 64036, 1 << 20} {
				if s, e := Build(h, strings.Repeat("x", room+more)); s != "" || e != api.ErrLong {
					t.Errorf("Build of %d bytes more than MaxFrame: %d bytes, %d", more, len(s), e)
				}
			}
		}
	}
	for _, h := range []Header{{SrcPort: 65536}, {DstPort: -1}, {Flags: 4096}, {Window: -1}, {Urgent: 65536}, {Opts: "\x01"}, {Opts: "\x07\x01zz"}, {Opts: strings.Repeat("\x01", 44)}} {
		if s, e := Build(h, some(5000)); s != "" || e != api.ErrArg {
			t.Errorf("Build(%#v) of too much = %s, %d; want ErrArg, which is named first", h, brief(s), e)
		}
	}
}

// segment is a right one, of that many bytes in all.
func segment(t *testing.T, opts string, size int) string {
	h := Header{SrcPort: 40000, DstPort: 80, Seq: 0x01020304, AckNum: 0x05060708, Flags: Ack, Window: 512, Urgent: 3, Opts: opts}
	s, e := buildPlain(h, some(size-20-len(opts)))
	if e != api.OK {
		t.Fatal(e)
	}
	return s
}

// P5.1: what Parse answers, by examples: each error at its edge, and ahead of it.
func TestParseErrors(t *testing.T) {
	s := segment(t, "", 40)
	o := segment(t, "\x02\x04ab", 50)
	for _, c := range []struct {
		name string
		s    string
		want api.Errno
	}{
		{"nothing", "", api.ErrShort},
		{"one byte", s[:1], api.ErrShort},
		{"12 bytes: no size", s[:12], api.ErrShort},
		{"13 bytes: just a size", s[:13], api.ErrShort},
		{"19 bytes", s[:19], api.ErrShort},
		{"just 20 bytes", s[:20], api.OK},
		{"right", s, api.OK},
		{"right, with options", o, api.OK},
		{"nothing behind the options", o[:24], api.OK},
		{"a header of 0 bytes", withByte(s, 12, 0x00), api.ErrHeader},
		{"a header of 4 bytes", withByte(s, 12, 0x10), api.ErrHeader},
		{"a header of 16 bytes", withByte(s, 12, 0x40), api.ErrHeader},
		{"a header of 16 bytes, all flags", withWord(s, 12, 0x4fff), api.ErrHeader},
		{"a header of 20 bytes, all flags", withWord(s, 12, 0x5fff), api.OK},
		{"a header of 60 bytes, of 40", withByte(s, 12, 0xf0), api.ErrHeader},
		{"a header of 60 bytes, of 59", withByte(s+strings.Repeat("\x00", 19), 12, 0xf0), api.ErrHeader},
		{"a header of 60 bytes, of 60", withByte(s[:20]+strings.Repeat("\x01", 40), 12, 0xf0), api.OK},
		{"a header of 24 bytes, of 20", withByte(s[:20], 12, 0x60), api.ErrHeader},
		{"a header of 24 bytes, of 23", o[:23], api.ErrHeader},
		{"options whose length is 0", withByte(o, 21, 0), api.ErrOption},
		{"options whose length is 1", withByte(o, 21, 1), api.ErrOption},
		{"options whose length is 2, and one that has none", withByte(o, 21, 2), api.ErrOption},
		{"options that go on into the body", withByte(o, 21, 5), api.ErrOption},
		{"options whose length lacks", o[:20] + "\x01\x01\x01\x02" + o[24:], api.ErrOption},
		{"options that end, and anything", o[:20] + "\x00\x02\x01\xff" + o[24:], api.OK},
		{"another check", withWord(s, 16, 0xabcd), api.OK},
		{"more than MaxFrame, which Parse does not ask", s + some(5000), api.OK},
	} {
		h, body, e := Parse(c.s)
		if e != c.want || e != api.OK && (h != Header{} || body != "") {
			t.Errorf("%s: Parse = %#v, %s, %d; want %d", c.name, h, brief(body), e, c.want)
		}
		checkParse(t, c.s)
	}
}

// P5.1: of two errors and more the first is told; each is mended in turn, and the next one comes.
func TestFirstError(t *testing.T) {
	s := strings.Repeat("\x00", 12) + "\x4f" + strings.Repeat("\xff", 6)
	for _, c := range []struct {
		mend func(s string) string
		want api.Errno
	}{
		{func(s string) string { return s }, api.ErrShort},
		{func(s string) string { return withByte(s, 12, 0xf0) }, api.ErrShort},
		{func(s string) string { return s + "\xff\x02\x09zzz" }, api.ErrHeader},
		{func(s string) string { return withByte(s, 12, 0x40) }, api.ErrHeader},
		{func(s string) string { return withByte(s, 12, 0x70) }, api.ErrHeader},
		{func(s string) string { return withByte(s, 12, 0x60) }, api.ErrOption},
		{func(s string) string { return withByte(s, 21, 4) }, api.OK},
	} {
		s = c.mend(s)
		if _, _, e := Parse(s); e != c.want {
			t.Errorf("Parse(%s): %d; want %d", brief(s), e, c.want)
		}
		checkParse(t, s)
	}
}

// P5.1: right segments of which each byte in turn is each other one, and that end at each place.
func TestParseMany(t *testing.T) {
	for _, s := range []string{
		segment(t, "", 20), segment(t, "", 45), segment(t, "\x02\x04ab", 24), segment(t, "\x01\x03\x03z", 64), segment(t, strings.Repeat("\x01", 40), 60),
		segment(t, "\x07\x28"+strings.Repeat("\x02", 38), 100), segment(t, "", 1500), segment(t, "", 1500) + some(70),
		segment(t, "", 20) + strings.Repeat("\x01", 40), strings.Repeat("\xff", 70), strings.Repeat("\x00", 70),
	} {
		for at := range min(len(s), 64) {
			for n := range 256 {
				checkParse(t, withByte(s, at, n))
			}
		}
		for cut := range len(s) + 1 {
			checkParse(t, s[:cut])
		}
	}
	for units := range 16 {
		for size := range 70 {
			s := strings.Repeat("\x01", size)
			if size > 12 {
				s = withByte(s, 12, units<<4|5)
			}
			checkParse(t, s)
		}
	}
	checkParse(t, segment(t, "\x02\x04ab", 50)+some(1<<20))
}

// P5.1: each check that there is, is passed over.
func TestParseChecks(t *testing.T) {
	s := segment(t, "\x02\x04ab", 50)
	want, wantBody, _ := Parse(s)
	for n := range 1 << 16 {
		if h, body, e := Parse(withWord(s, 16, n)); h != want || body != wantBody || e != api.OK {
			t.Fatalf("Parse with a check of %d = %#v, %x, %d", n, h, body, e)
		}
	}
}

// P5.3, from the other side: what is parsed is built as it was, but for its check.
func TestBuiltAgain(t *testing.T) {
	for _, opts := range rightOpts {
		for _, size := range []int{20 + len(opts), 61, 1499, 1500} {
			s := segment(t, opts, max(size, 20+len(opts)))
			h, body, e := Parse(withWord(s, 16, 0xabcd))
			if e != api.OK {
				t.Fatal(e)
			}
			if again, e := Build(h, body); again != s || e != api.OK {
				t.Errorf("%s is built again as %s, %d", brief(s), brief(again), e)
			}
		}
	}
}

// The flags are the six lowest bits of a header's, as they stand in its byte 13.
func TestFlags(t *testing.T) {
	for i, flag := range []int{Fin, Syn, Rst, Psh, Ack, Urg} {
		s, e := Build(Header{Flags: flag}, "")
		if flag != 1<<i || e != api.OK || s[13] != byte(flag) {
			t.Errorf("flag %d is %d: %x, %d", i, flag, s, e)
		}
	}
}

// P5.2: names, by examples.
func TestName(t *testing.T) {
	for _, c := range []struct {
		flags int
		want  string
	}{
		{18, "SA"}, // the chapter's example
		{0, ""},
		{Fin, "F"}, {Syn, "S"}, {Rst, "R"}, {Psh, "P"}, {Ack, "A"}, {Urg, "U"},
		{Syn | Ack, "SA"}, {Fin | Ack, "FA"}, {Rst | Ack, "RA"}, {Psh | Ack, "PA"}, {Fin | Psh | Ack, "FPA"}, {Urg | Fin, "FU"},
		{Fin | Syn | Rst | Psh | Ack | Urg, "FSRPAU"},
		{64, ""}, {128, ""}, {256, ""}, {2048, ""}, {4032, ""}, {4095, "FSRPAU"}, {4096, ""}, {64 | Syn, "S"}, {2048 | Urg | Psh, "PU"},
		{1 << 31, ""}, {1 << 32, ""}, {1<<32 | Rst, "R"}, {1 << 62, ""}, {math.MaxInt, "FSRPAU"}, {math.MaxInt - 1, "SRPAU"}, {math.MaxInt - 63, ""},
		{-1, "FSRPAU"}, {-2, "SRPAU"}, {-32, "U"}, {-64, ""}, {-63, "F"}, {math.MinInt, ""}, {math.MinInt + 18, "SA"}, // the bits of these, as of any
	} {
		if got := Name(c.flags); got != c.want {
			t.Errorf("Name(%d) = %q; want %q", c.flags, got, c.want)
		}
	}
}

// P5.2: all flags of a header, and others above them: a letter is there just if its flag is, and the letters keep their order.
func TestNameMany(t *testing.T) {
	for flags := range 1 << 13 {
		want := ""
		for _, f := range []struct {
			flag   int
			letter string
		}{{1, "F"}, {2, "S"}, {4, "R"}, {8, "P"}, {16, "A"}, {32, "U"}} {
			if flags/f.flag%2 == 1 {
				want += f.letter
			}
		}
		for _, above := range []int{0, 1 << 13, 1 << 32, 1 << 62, math.MinInt} {
			if got := Name(above + flags); got != want || Name(above+flags) != want {
				t.Fatalf("Name(%d) = %q; want %q", above+flags, got, want)
			}
		}
	}
}

// P3 of the rules: nothing that is handed in is written into, nor kept: what is written there afterwards changes no answer.
func TestNothingKept(t *testing.T) {
	s := segment(t, "\x02\x04ab", 50)
	room := []byte("<<" + s + ">>")
	h, body, e := Parse(unsafe.String(&room[2], len(s)))
	OptsRight(unsafe.String(&room[22], 4))
	if string(room) != "<<"+s+">>" {
		t.Errorf("the segment that was handed in is now %x", room)
	}
	clear(room)
	if h.Opts != "\x02\x04ab" || body != s[24:] || e != api.OK {
		t.Errorf("what was parsed became %#v, %x", h, body)
	}

	opts, text := []byte("\x02\x04ab"), []byte("body")
	h.Opts = unsafe.String(&opts[0], len(opts))
	built, e := Build(h, unsafe.String(&text[0], len(text)))
	if string(opts) != "\x02\x04ab" || string(text) != "body" || e != api.OK {
		t.Errorf("what was handed in is now %x, %x", opts, text)
	}
	clear(opts)
	clear(text)
	if built[20:] != "\x02\x04abbody" {
		t.Errorf("what was built became %x", built)
	}
}

// P3 of the rules: no answer shares memory with what is handed in, be it as short as it may.
func TestShortAnswers(t *testing.T) {
	for _, opts := range []string{"", "\x01\x01\x01\x01"} {
		for size := 20 + len(opts); size < 24+len(opts); size++ {
			room := []byte(segment(t, opts, size))
			want := string(room[20+len(opts):])
			h, body, e := Parse(unsafe.String(&room[0], len(room)))
			clear(room)
			if h.Opts != opts || body != want || e != api.OK {
				t.Errorf("options %x, %d bytes: %#v, %x, %d", opts, size, h, body, e)
			}
		}
	}
}
