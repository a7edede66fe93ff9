package icmp

import (
	"encoding/binary"
	"fmt"
	"math"
	"strings"
	"testing"
	"unsafe"

	"weighbridge/api"
)

// some is a text of that many bytes, which go up and down.
func some(size int) string {
	b := make([]byte, size)
	for i := range b {
		b[i] = byte(i*i*13 + i/3 + 5)
	}
	return string(b)
}

// plain is a message put down byte by byte, whatever its check is to be.
func plain(kind, code int, check uint16, rest uint32, body string) string {
	b := []byte{byte(kind), byte(code)}
	b = binary.BigEndian.AppendUint16(b, check)
	b = binary.BigEndian.AppendUint32(b, rest)
	return string(b) + body
}

// sumPlain says the Sum of chapter 3 over again, by its remainder: what is carried round is never 0, unless all is.
func sumPlain(s string) uint16 {
	n := 0
	for i := range len(s) {
		n += int(s[i]) << (8 * (1 - i%2))
	}
	if n == 0 {
		return 0
	}
	return uint16((n-1)%65535 + 1)
}

// right is a message byte by byte, with its check.
func right(kind, code int, rest uint32, body string) string {
	return plain(kind, code, 65535-sumPlain(plain(kind, code, 0, rest, body)), rest, body)
}

// buildPlain says P7.1 of Build over again.
func buildPlain(m Message) (string, api.Errno) {
	for _, n := range []int{m.Type, m.Code} {
		if n < 0 || n > 255 {
			return "", api.ErrArg
		}
	}
	if 8+len(m.Body) > 1500 {
		return "", api.ErrLong
	}
	return right(m.Type, m.Code, m.Rest, m.Body), api.OK
}

// parsePlain says P7.1 of Parse over again.
func parsePlain(s string) (Message, api.Errno) {
	if len(s) < 8 {
		return Message{}, api.ErrShort
	}
	if sumPlain(s) != 65535 {
		return Message{}, api.ErrSum
	}
	rest := uint32(s[4])<<24 | uint32(s[5])<<16 | uint32(s[6])<<8 | uint32(s[7])
	return Message{int(s[0]), int(s[1]), rest, s[8:]}, api.OK
}

// brief is s, or how long it is.
func brief(s string) string {
	if len(s) > 40 {
		return fmt.Sprintf("%x.. (%d bytes)", s[:40], len(s))
	}
	return fmt.Sprintf("%x", s)
}

// tell is m with its body in brief.
func tell(m Message) string {
	return fmt.Sprintf("{%d, %d, %08x, %s}", m.Type, m.Code, m.Rest, brief(m.Body))
}

// checkBuild holds Build against what it must be, and (P7.3) what is built against what is parsed of it.
func checkBuild(t *testing.T, m Message) {
	t.Helper()
	want, wantE := buildPlain(m)
	for range 2 {
		if got, e := Build(m); got != want || e != wantE {
			t.Fatalf("Build(%s) = %s, %d; want %s, %d", tell(m), brief(got), e, brief(want), wantE)
		}
	}
	if wantE != api.OK {
		return
	}
	if got, e := Parse(want); got != m || e != api.OK {
		t.Fatalf("Build(%s) is parsed as %s, %d", tell(m), tell(got), e)
	}
}

// checkParse holds Parse against what it must be.
func checkParse(t *testing.T, s string) {
	t.Helper()
	want, wantE := parsePlain(s)
	for range 2 {
		if got, e := Parse(s); got != want || e != wantE {
			t.Fatalf("Parse(%s) = %s, %d; want %s, %d", brief(s), tell(got), e, tell(want), wantE)
		}
	}
}

// P7.1: messages byte by byte.
func TestBuild(t *testing.T) {
	for _, c := range []struct {
		m    Message
		want string
	}{
		{Message{}, "\x00\x00\xff\xff\x00\x00\x00\x00"},
		{Message{Type: 255}, "\xff\x00\x00\xff\x00\x00\x00\x00"},
		{Message{Code: 255}, "\x00\xff\xff\x00\x00\x00\x00\x00"},
		{Message{Type: 255, Code: 255}, "\xff\xff\x00\x00\x00\x00\x00\x00"}, // a check of 0 stays 0
		{Message{Rest: 1}, "\x00\x00\xff\xfe\x00\x00\x00\x01"},
		{Message{Rest: 0x01020304}, "\x00\x00\xfb\xf9\x01\x02\x03\x04"},
		{Message{Rest: 0xffff0000}, "\x00\x00\x00\x00\xff\xff\x00\x00"},
		{Message{Rest: 0xffffffff}, "\x00\x00\x00\x00\xff\xff\xff\xff"},
		{Message{255, 255, 0xffffffff, ""}, "\xff\xff\x00\x00\xff\xff\xff\xff"},
		{Message{255, 255, 0xffffffff, "\xff"}, "\xff\xff\x00\xff\xff\xff\xff\xff\xff"},
		{Message{Body: "x"}, "\x00\x00\x87\xff\x00\x00\x00\x00x"}, // an odd body: its last byte counts 256 times
		{Message{Body: "\x00"}, "\x00\x00\xff\xff\x00\x00\x00\x00\x00"},
		{Message{Body: "\x00x"}, "\x00\x00\xff\x87\x00\x00\x00\x00\x00x"},
		{Message{Body: "abc"}, "\x00\x00\x3b\x9d\x00\x00\x00\x00abc"},
		{Message{3, 4, 1400, "ab"}, "\x03\x04\x96\x21\x00\x00\x05\x78ab"},
		{Message{8, 0, 0x00010001, ""}, "\x08\x00\xf7\xfd\x00\x01\x00\x01"},
		{Message{11, 0, 0, "\xff\xff\x00\x01"}, "\x0b\x00\xf4\xfe\x00\x00\x00\x00\xff\xff\x00\x01"},
	} {
		if got, e := Build(c.m); got != c.want || e != api.OK {
			t.Errorf("Build(%s) = %s, %d; want %s", tell(c.m), brief(got), e, brief(c.want))
		}
		if got, e := Parse(c.want); got != c.m || e != api.OK {
			t.Errorf("Parse(%s) = %s, %d; want %s", brief(c.want), tell(got), e, tell(c.m))
		}
		checkBuild(t, c.m)
		checkParse(t, c.want)
	}
}

// P7.1: each Type with each Code; those that are none are ErrArg, wherever they stand.
func TestTypesAndCodes(t *testing.T) {
	for kind := range 256 {
		for code := range 256 {
			checkBuild(t, Message{Type: kind, Code: code})
			checkBuild(t, Message{kind, code, uint32(kind) << 24, "abc"})
		}
	}
	good := []int{0, 1, 3, 4, 127, 128, 254, 255}
	wrong := []int{math.MinInt, math.MinInt + 1, math.MinInt + 3, -1 << 32, -1<<32 + 3, -65536, -256, -255, -253, -128, -2, -1, 256, 257, 259, 511, 512,
		65535, 65536, 65539, 1 << 24, 1<<31 - 1, 1 << 31, 1<<32 - 1, 1 << 32, 1<<32 + 3, 1 << 40, 1 << 56, 1 << 62, math.MaxInt - 1, math.MaxInt}
	for _, a := range wrong {
		for _, b := range append(append([]int{}, good...), wrong...) {
			for _, body := range []string{"", "x", some(1492)} {
				for _, m := range []Message{{a, b, 0, body}, {b, a, 0xffffffff, body}} {
					if s, e := Build(m); s != "" || e != api.ErrArg {
						t.Errorf("Build(%s) = %s, %d; want ErrArg", tell(m), brief(s), e)
					}
				}
			}
		}
	}
	for _, a := range good {
		for _, b := range good {
			if s, e := Build(Message{Type: a, Code: b}); len(s) != 8 || e != api.OK {
				t.Errorf("Build of %d, %d = %s, %d", a, b, brief(s), e)
			}
		}
	}
}

// P7.1: Rest at its edges, and with each bit alone and each bit missing.
func TestRest(t *testing.T) {
	rests := []uint32{0, 1, 255, 256, 65535, 65536, 0x01020304, 0x0000ffff, 0xffff0000, 1<<31 - 1, 1 << 31, 1<<32 - 2, 1<<32 - 1}
	for i := range 32 {
		rests = append(rests, 1<<i, ^(uint32(1) << i))
	}
	for _, rest := range rests {
		for _, body := range []string{"", "x", "ab", "\xff\xff\xff", some(1492)} {
			checkBuild(t, Message{Rest: rest, Body: body})
			checkBuild(t, Message{3, 4, rest, body})
			checkBuild(t, Message{255, 255, rest, body})
		}
	}
}

// P7.1: just MaxFrame bytes in all are built; one more is ErrLong, unless the Type or the Code is none either.
func TestBuildLong(t *testing.T) {
	const room = api.MaxFrame - 8
	m := Message{3, 4, 576, some(room)}
	s, e := Build(m)
	if len(s) != api.MaxFrame || e != api.OK {
		t.Errorf("Build of just MaxFrame bytes: %d bytes, %d", len(s), e)
	}
	if got, e := Parse(s); got != m || e != api.OK {
		t.Errorf("Parse of just MaxFrame bytes: %s, %d", tell(got), e)
	}
	for _, more := range []int{1, 2, 7, 8, 9, 64035, 64036, 64037, 65536 - room, 65536, 1 << 20} {
		body := strings.Repeat("x", room+more)
		for _, m := range []Message{{0, 0, 0, body}, {3, 4, 576, body}, {255, 255, 0xffffffff, body}} {
			if s, e := Build(m); s != "" || e != api.ErrLong {
				t.Errorf("Build of %d bytes more than MaxFrame: %s, %d; want ErrLong", more, brief(s), e)
			}
		}
		for _, m := range []Message{{-1, 0, 0, body}, {0, -1, 0, body}, {256, 0, 0, body}, {0, 256, 0, body}, {-1, 256, 0, body}, {256, 256, 0, body}} {
			if s, e := Build(m); s != "" || e != api.ErrArg {
				t.Errorf("Build(%s), too long: %s, %d; want ErrArg, which is named first", tell(m), brief(s), e)
			}
		}
	}
}

// P7.1: each length of a body, and some above MaxFrame.
func TestBodies(t *testing.T) {
	for size := range 1600 {
		checkBuild(t, Message{11, 1, uint32(size), some(size)})
		checkBuild(t, Message{0, 0, 0, strings.Repeat("\x00", size)})
		checkBuild(t, Message{0, 0, 0, strings.Repeat("\xff", size)})
	}
	for n := range 256 {
		checkBuild(t, Message{Body: string([]byte{byte(n)})})
		checkBuild(t, Message{Body: string([]byte{0, byte(n)})})
		checkBuild(t, Message{Body: string([]byte{0, 255, byte(n)})})
	}
}

// P7.1: what Parse answers, by examples.
func TestParse(t *testing.T) {
	for _, c := range []struct {
		name string
		s    string
		want Message
		e    api.Errno
	}{
		{"nothing", "", Message{}, api.ErrShort},
		{"one byte", "\x03", Message{}, api.ErrShort},
		{"two bytes, of which the sum is right", "\xff\xff", Message{}, api.ErrShort},
		{"a Type, a Code and their check", "\x03\x04\xfc\xfb", Message{}, api.ErrShort},
		{"7 bytes, of which the sum is right", "\x03\x04\xfc\xfb\x00\x00\x00", Message{}, api.ErrShort},
		{"7 bytes, of which the sum is another one", "\x03\x04\xfc\xfc\x00\x00\x00", Message{}, api.ErrShort},
		{"7 bytes, no bit set", strings.Repeat("\x00", 7), Message{}, api.ErrShort},
		{"just 8 bytes", "\x03\x04\xfc\xfb\x00\x00\x00\x00", Message{Type: 3, Code: 4}, api.OK},
		{"just 8 bytes, a sum of one more", "\x03\x04\xfc\xfc\x00\x00\x00\x00", Message{}, api.ErrSum},
		{"just 8 bytes, a sum of one less", "\x03\x04\xfc\xfa\x00\x00\x00\x00", Message{}, api.ErrSum},
		{"the check with its bytes turned", "\x03\x04\xfb\xfc\x00\x00\x00\x00", Message{}, api.ErrSum},
		{"no check", "\x03\x04\x00\x00\x00\x00\x00\x00", Message{}, api.ErrSum},
		{"9 bytes", "\x03\x04\x84\xfb\x00\x00\x00\x00x", Message{3, 4, 0, "x"}, api.OK},
		{"9 bytes, of which the last one does not count in the check", "\x03\x04\xfc\xfb\x00\x00\x00\x00x", Message{}, api.ErrSum},
		{"9 bytes, of which the last one counts as a lower half", "\x03\x04\xfc\x83\x00\x00\x00\x00x", Message{}, api.ErrSum},
		{"9 bytes, of which the last one is 0", "\x03\x04\xfc\xfb\x00\x00\x00\x00\x00", Message{3, 4, 0, "\x00"}, api.OK},
		{"the greatest numbers", "\xff\xff\x00\x00\xff\xff\xff\xff", Message{Type: 255, Code: 255, Rest: 0xffffffff}, api.OK},
		{"all bits set", strings.Repeat("\xff", 8), Message{Type: 255, Code: 255, Rest: 0xffffffff}, api.OK},
		{"no bit set, of which the sum is 0", strings.Repeat("\x00", 8), Message{}, api.ErrSum},
		{"no bit set, 20 bytes", strings.Repeat("\x00", 20), Message{}, api.ErrSum},
		{"no bit set but in the check", "\x00\x00\xff\xff\x00\x00\x00\x00", Message{}, api.OK},
		{"a check of 0, which is right", "\x00\x00\x00\x00\xff\xff\x00\x00", Message{Rest: 0xffff0000}, api.OK},
		{"a check of 65535 where 0 is right, too", "\x00\x00\xff\xff\xff\xff\x00\x00", Message{Rest: 0xffff0000}, api.OK},
		{"each number its own", "\x08\x07\xf1\xf5\x01\x00\x05\x03", Message{Type: 8, Code: 7, Rest: 0x01000503}, api.OK},
		{"one more than MaxFrame, which Parse does not ask", right(3, 1, 5, some(1493)), Message{3, 1, 5, some(1493)}, api.OK},
		{"70000 bytes", right(3, 1, 5, some(69992)), Message{3, 1, 5, some(69992)}, api.OK},
	} {
		if got, e := Parse(c.s); got != c.want || e != c.e {
			t.Errorf("%s: Parse = %s, %d; want %s, %d", c.name, tell(got), e, tell(c.want), c.e)
		}
		checkParse(t, c.s)
	}
}

// P7.1: each check that there is, of messages of many sizes: just the right one is taken (and 65535 for 0).
func TestChecks(t *testing.T) {
	for _, body := range []string{"", "x", "body", "odd", some(300)} {
		taken := 0
		for check := range 1 << 16 {
			s := plain(11, 1, uint16(check), 0x01020304, body)
			checkParse(t, s)
			if _, e := Parse(s); e == api.OK {
				taken++
			}
		}
		if taken != 1 {
			t.Errorf("with the body %s %d checks are right", brief(body), taken)
		}
	}
	taken := 0
	for check := range 1 << 16 {
		s := plain(255, 255, uint16(check), 0, "")
		checkParse(t, s)
		if m, e := Parse(s); e == api.OK && m == (Message{Type: 255, Code: 255}) {
			taken++
		}
	}
	if taken != 2 {
		t.Errorf("where the check is 0 %d are right; want 0 and 65535", taken)
	}
}

// P7.1: texts of which each byte in turn is each other one, and that end at each place.
func TestParseMany(t *testing.T) {
	for _, s := range []string{
		right(3, 4, 1400, ""), right(0, 0, 0, "behind"), right(255, 255, 0xffffffff, "odd"), right(11, 0, 0, some(28)), right(12, 0, 1<<31, some(300)),
		right(8, 0, 0x00010002, strings.Repeat("\x00", 9)), strings.Repeat("\x00", 40), strings.Repeat("\xff", 40), some(41),
	} {
		for at := range min(len(s), 16) {
			for n := range 256 {
				b := []byte(s)
				b[at] = byte(n)
				checkParse(t, string(b))
			}
		}
		for cut := range len(s) + 1 {
			checkParse(t, s[:cut])
			checkParse(t, s[:cut]+"\x00")
			checkParse(t, s[cut:])
		}
	}
}

// P7.3: what is built is parsed as it was; with one bit turned it is not, whichever it is.
func TestOneBitTurned(t *testing.T) {
	bodies := []string{"", "x", "ab", "odd", "\x00", "\xff", "\xff\xff", strings.Repeat("\x00", 21), strings.Repeat("\xff", 21), some(28), some(29), some(247), some(1491), some(1492)}
	for _, body := range bodies {
		for _, m := range []Message{{0, 0, 0, body}, {3, 4, 1400, body}, {8, 0, 0x00010001, body}, {255, 255, 0xffffffff, body}, {0, 0, 0xffff0000, body}} {
			s, e := Build(m)
			if e != api.OK {
				t.Fatal(tell(m), e)
			}
			if got, e := Parse(s); got != m || e != api.OK {
				t.Fatalf("Build(%s) is parsed as %s, %d", tell(m), tell(got), e)
			}
			b := []byte(s)
			for bit := range 8 * len(s) {
				b[bit/8] ^= 1 << (bit % 8)
				if got, e := Parse(string(b)); got != (Message{}) || e != api.ErrSum {
					t.Fatalf("Build(%s) with the bit %d turned is parsed as %s, %d; want ErrSum", tell(m), bit, tell(got), e)
				}
				b[bit/8] ^= 1 << (bit % 8)
			}
		}
	}
}

// P7.3, from the other side: what is parsed is built as it was (but for a check of 65535, which may become 0).
func TestBuiltAgain(t *testing.T) {
	for _, s := range []string{right(3, 4, 1400, "ab"), right(0, 0, 0, ""), right(255, 255, 0, ""), right(12, 0, 0xffffffff, some(1492)), right(11, 1, 1, some(1491))} {
		m, e := Parse(s)
		if e != api.OK {
			t.Fatal(e)
		}
		if again, e := Build(m); again != s || e != api.OK {
			t.Errorf("%s is built again as %s, %d", brief(s), brief(again), e)
		}
	}
	m, e := Parse(strings.Repeat("\xff", 8))
	if e != api.OK {
		t.Fatal(e)
	}
	if again, e := Build(m); again != "\xff\xff\x00\x00\xff\xff\xff\xff" || e != api.OK {
		t.Errorf("all bits set is built again as %s, %d", brief(again), e)
	}
}

// P7.2: Error of 3, 11 and 12, and of no other number, of whatever size.
func TestError(t *testing.T) {
	if Error(8) {
		t.Error("Error(8), the chapter's example, is true")
	}
	for _, kind := range []int{3, 11, 12} {
		if !Error(kind) {
			t.Errorf("Error(%d) is false", kind)
		}
	}
	for _, kind := range []int{math.MinInt, math.MinInt + 3, -1<<32 + 3, -256 + 3, -244, -12, -11, -3, -1, 0, 1, 2, 4, 5, 8, 9, 10, 13, 14, 255, 256, 256 + 3, 256 + 11, 256 + 12,
		65536 + 3, 1<<32 + 3, 1<<32 + 11, 1<<32 + 12, 1 << 62, math.MaxInt - 1, math.MaxInt} {
		if Error(kind) {
			t.Errorf("Error(%d) is true", kind)
		}
	}
	for kind := -70000; kind <= 70000; kind++ {
		if got, want := Error(kind), kind == 3 || kind == 11 || kind == 12; got != want {
			t.Fatalf("Error(%d) = %v", kind, got)
		}
	}
}

// P7.2: MTU of Type 3 with Code 4 is the lower half of Rest, whatever the upper one and the body are.
func TestMTU(t *testing.T) {
	for _, c := range []struct {
		rest uint32
		want int
	}{
		{0, 0}, {1, 1}, {68, 68}, {576, 576}, {1400, 1400}, {1500, 1500}, {32767, 32767}, {32768, 32768}, {65534, 65534}, {65535, 65535},
		{0x00010000, 0}, {0x00010578, 1400}, {0x80000578, 1400}, {0xffff0578, 1400}, {0xffff0000, 0}, {0xffffffff, 65535}, {0x12345678, 0x5678},
	} {
		for _, body := range []string{"", "x", some(1492), some(1493)} {
			if n, ok := MTU(Message{3, 4, c.rest, body}); n != c.want || !ok {
				t.Errorf("MTU with Rest %08x = %d, %v; want %d, true", c.rest, n, ok, c.want)
			}
		}
	}
	for n := range 1 << 16 {
		for _, upper := range []uint32{0, 1, 0x8000, 0xffff} {
			if got, ok := MTU(Message{Type: 3, Code: 4, Rest: upper<<16 | uint32(n)}); got != n || !ok {
				t.Fatalf("MTU with Rest %04x%04x = %d, %v", upper, n, got, ok)
			}
		}
	}
}

// P7.2: MTU of any other Type or Code is 0 and false, whatever Rest is.
func TestNoMTU(t *testing.T) {
	check := func(m Message) {
		t.Helper()
		if n, ok := MTU(m); n != 0 || ok {
			t.Errorf("MTU(%s) = %d, %v; want 0, false", tell(m), n, ok)
		}
	}
	check(Message{})
	check(Message{4, 3, 1400, ""})
	for kind := -3; kind < 260; kind++ {
		for code := -4; code < 261; code++ {
			if kind != 3 || code != 4 {
				check(Message{kind, code, 1400, "ab"})
			}
		}
	}
	for _, far := range []int{math.MinInt, -1 << 32, -256, 256, 65536, 1 << 32, 1 << 56} {
		for _, rest := range []uint32{0, 1400, 0xffffffff} {
			check(Message{far + 3, 4, rest, ""})
			check(Message{3, far + 4, rest, ""})
			check(Message{far + 3, far + 4, rest, ""})
		}
	}
	check(Message{math.MaxInt, 4, 1400, ""})
	check(Message{3, math.MaxInt, 1400, ""})
	check(Message{-3, 4, 1400, ""})
	check(Message{3, -4, 1400, ""})
}

// P7.2: what is parsed tells its MTU as what was built.
func TestMTUParsed(t *testing.T) {
	m, e := Parse("\x03\x04\x96\x20\x00\x01\x05\x78ab")
	if e != api.OK {
		t.Fatal(e)
	}
	if n, ok := MTU(m); n != 1400 || !ok || !Error(m.Type) {
		t.Errorf("MTU(%s) = %d, %v", tell(m), n, ok)
	}
}

// P3 of the rules: nothing that is handed in is written into, nor kept: what is written there afterwards changes no answer.
func TestNothingKept(t *testing.T) {
	for _, size := range []int{0, 1, 2, 3, 40, 1491, 1492} {
		want := Message{3, 4, 0x01020304, some(size)}
		s := right(3, 4, 0x01020304, some(size))

		room := []byte("<<" + s + ">>")
		got, e := Parse(unsafe.String(&room[2], len(s)))
		if string(room) != "<<"+s+">>" {
			t.Errorf("the message that was handed in is now %s", brief(string(room)))
		}
		clear(room)
		if got != want || e != api.OK {
			t.Errorf("a body of %d bytes: what was parsed became %s, %d", size, tell(got), e)
		}

		room = []byte("<<" + some(size) + ">>")
		in := Message{3, 4, 0x01020304, unsafe.String(&room[2], size)}
		built, e := Build(in)
		n, ok := MTU(in)
		if string(room) != "<<"+some(size)+">>" {
			t.Errorf("the body that was handed in is now %s", brief(string(room)))
		}
		clear(room)
		if built != s || e != api.OK || n != 0x0304 || !ok {
			t.Errorf("what was built became %s, %d; want %s; MTU %d, %v", brief(built), e, brief(s), n, ok)
		}
	}
}
