package udp

import (
	"encoding/binary"
	"fmt"
	"math"
	"strings"
	"testing"
	"unsafe"

	"weighbridge/api"
)

// some is a text of that many bytes, which go up and down.
func some(size int) string {
	b := make([]byte, size)
	for i := range b {
		b[i] = byte(i*i*11 + i/5 + 3)
	}
	return string(b)
}

// plain is a datagram put down byte by byte, whatever its length and its check are to be.
func plain(src, dst, length, check int, body string) string {
	b := binary.BigEndian.AppendUint16(nil, uint16(src))
	b = binary.BigEndian.AppendUint16(b, uint16(dst))
	b = binary.BigEndian.AppendUint16(b, uint16(length))
	b = binary.BigEndian.AppendUint16(b, uint16(check))
	return string(b) + body
}

// buildPlain says P6.1 of Build over again.
func buildPlain(src, dst int, body string) (string, api.Errno) {
	for _, port := range []int{src, dst} {
		if port < 0 || port > 65535 {
			return "", api.ErrArg
		}
	}
	if 8+len(body) > 1500 {
		return "", api.ErrLong
	}
	return plain(src, dst, 8+len(body), 0, body), api.OK
}

// parsed is what Parse answers.
type parsed struct {
	src, dst int
	body     string
	e        api.Errno
}

func (p parsed) String() string {
	return fmt.Sprintf("%d, %d, %s, %d", p.src, p.dst, brief(p.body), p.e)
}

func parse(s string) parsed {
	src, dst, body, e := Parse(s)
	return parsed{src, dst, body, e}
}

// parsePlain says P6.1 of Parse over again.
func parsePlain(s string) parsed {
	if len(s) < 8 {
		return parsed{e: api.ErrShort}
	}
	word := func(at int) int { return int(s[at])*256 + int(s[at+1]) }
	if word(4) < 8 || word(4) > len(s) {
		return parsed{e: api.ErrLength}
	}
	return parsed{word(0), word(2), s[8:word(4)], api.OK}
}

// brief is s, or how long it is.
func brief(s string) string {
	if len(s) > 40 {
		return fmt.Sprintf("%x.. (%d bytes)", s[:40], len(s))
	}
	return fmt.Sprintf("%x", s)
}

// checkBuild holds Build against what it must be, and (P6.3) what is built against what is parsed of it.
func checkBuild(t *testing.T, src, dst int, body string) {
	t.Helper()
	want, wantE := buildPlain(src, dst, body)
	for range 2 {
		if got, e := Build(src, dst, body); got != want || e != wantE {
			t.Fatalf("Build(%d, %d, %s) = %s, %d; want %s, %d", src, dst, brief(body), brief(got), e, brief(want), wantE)
		}
	}
	if wantE != api.OK {
		return
	}
	if got, as := parse(want), (parsed{src, dst, body, api.OK}); got != as {
		t.Fatalf("Build(%d, %d, %s) is parsed as %v", src, dst, brief(body), got)
	}
}

// checkParse holds Parse and Size against what they must be.
func checkParse(t *testing.T, s string) {
	t.Helper()
	want := parsePlain(s)
	wantSize, wantOK := 0, want.e == api.OK
	if wantOK {
		wantSize = 8 + len(want.body)
	}
	for range 2 {
		if got := parse(s); got != want {
			t.Fatalf("Parse(%s) = %v; want %v", brief(s), got, want)
		}
		if n, ok := Size(s); n != wantSize || ok != wantOK {
			t.Fatalf("Size(%s) = %d, %v; want %d, %v", brief(s), n, ok, wantSize, wantOK)
		}
	}
}

// P6.1: datagrams byte by byte.
func TestBuild(t *testing.T) {
	for _, c := range []struct {
		src, dst int
		body     string
		want     string
	}{
		{1, 2, "x", "\x00\x01\x00\x02\x00\x09\x00\x00\x78"}, // the chapter's example
		{0, 0, "", "\x00\x00\x00\x00\x00\x08\x00\x00"},
		{65535, 65535, "", "\xff\xff\xff\xff\x00\x08\x00\x00"},
		{65535, 0, "", "\xff\xff\x00\x00\x00\x08\x00\x00"},
		{0, 65535, "", "\x00\x00\xff\xff\x00\x08\x00\x00"},
		{0x0102, 0x0304, "ab", "\x01\x02\x03\x04\x00\x0a\x00\x00ab"},
		{53, 40000, "\x00\xff\x80\x00", "\x00\x35\x9c\x40\x00\x0c\x00\x00\x00\xff\x80\x00"},
		{7, 8, strings.Repeat("z", 248), "\x00\x07\x00\x08\x01\x00\x00\x00" + strings.Repeat("z", 248)},
		{7, 8, strings.Repeat("z", 1492), "\x00\x07\x00\x08\x05\xdc\x00\x00" + strings.Repeat("z", 1492)},
	} {
		if got, e := Build(c.src, c.dst, c.body); got != c.want || e != api.OK {
			t.Errorf("Build(%d, %d, %s) = %s, %d; want %s", c.src, c.dst, brief(c.body), brief(got), e, brief(c.want))
		}
		if got, want := parse(c.want), (parsed{c.src, c.dst, c.body, api.OK}); got != want {
			t.Errorf("Parse(%s) = %v; want %v", brief(c.want), got, want)
		}
		if n, ok := Size(c.want); n != len(c.want) || !ok {
			t.Errorf("Size(%s) = %d, %v; want %d", brief(c.want), n, ok, len(c.want))
		}
		checkBuild(t, c.src, c.dst, c.body)
	}
}

// P6.1: each port, as the one and as the other; those that are none are ErrArg, wherever they stand.
func TestPorts(t *testing.T) {
	for port := range 1 << 16 {
		checkBuild(t, port, 65535-port, "")
		checkBuild(t, port, port, "ab")
	}
	right := []int{0, 1, 255, 256, 65534, 65535}
	wrong := []int{math.MinInt, math.MinInt + 1, math.MinInt + 80, -1 << 32, -1<<32 + 80, -65536, -65535, -2, -1, 65536, 65537, 65536 + 80, 131071, 131072, 1 << 24,
		1<<31 - 1, 1 << 31, 1<<32 - 1, 1 << 32, 1<<32 + 80, 1 << 48, 1 << 62, math.MaxInt - 1, math.MaxInt}
	for _, a := range wrong {
		for _, b := range append(append([]int{}, right...), wrong...) {
			for _, body := range []string{"", "x", some(1492)} {
				for _, ports := range [][2]int{{a, b}, {b, a}} {
					if s, e := Build(ports[0], ports[1], body); s != "" || e != api.ErrArg {
						t.Errorf("Build(%d, %d, %s) = %s, %d; want ErrArg", ports[0], ports[1], brief(body), brief(s), e)
					}
				}
			}
		}
	}
	for _, a := range right {
		for _, b := range right {
			if s, e := Build(a, b, "x"); len(s) != 9 || e != api.OK {
				t.Errorf("Build(%d, %d, x) = %s, %d", a, b, brief(s), e)
			}
			checkBuild(t, a, b, "x")
		}
	}
}

// P6.1: just MaxFrame bytes in all are built; one more is ErrLong, unless a port is none either.
func TestBuildLong(t *testing.T) {
	const room = api.MaxFrame - 8
	s, e := Build(40000, 53, some(room))
	if len(s) != api.MaxFrame || e != api.OK {
		t.Errorf("Build of just MaxFrame bytes: %d bytes, %d", len(s), e)
	}
	if got, want := parse(s), (parsed{40000, 53, some(room), api.OK}); got != want {
		t.Errorf("Parse of just MaxFrame bytes: %v", got)
	}
	for _, more := range []int{1, 2, 7, 8, 9, 64035, 64036, 64037, 65536 - room, 65536, 1 << 20} {
		body := strings.Repeat("x", room+more)
		for _, port := range []int{0, 53, 65535} {
			if s, e := Build(port, 53, body); s != "" || e != api.ErrLong {
				t.Errorf("Build of %d bytes more than MaxFrame: %s, %d; want ErrLong", more, brief(s), e)
			}
		}
		for _, ports := range [][2]int{{-1, 53}, {53, -1}, {65536, 53}, {53, 65536}, {-1, 65536}} {
			if s, e := Build(ports[0], ports[1], body); s != "" || e != api.ErrArg {
				t.Errorf("Build(%d, %d) of too much: %s, %d; want ErrArg, which is named first", ports[0], ports[1], brief(s), e)
			}
		}
	}
}

// P6.1: each length of a body, and some above MaxFrame.
func TestBodies(t *testing.T) {
	for size := range 1600 {
		checkBuild(t, 40000, size, some(size))
	}
	for n := range 256 {
		checkBuild(t, n, 256*n, string([]byte{byte(n)}))
		checkBuild(t, 256*n, n, string([]byte{0, byte(n), 0}))
	}
}

// P6.1 and P6.2: what Parse and Size answer, by examples.
func TestParse(t *testing.T) {
	for _, c := range []struct {
		name string
		s    string
		want parsed
	}{
		{"nothing", "", parsed{e: api.ErrShort}},
		{"one byte", "\x01", parsed{e: api.ErrShort}},
		{"5 bytes: half a length", "\x00\x01\x00\x02\x00", parsed{e: api.ErrShort}},
		{"6 bytes: just a length, of 6", "\x00\x01\x00\x02\x00\x06", parsed{e: api.ErrShort}},
		{"7 bytes, a length of 7", "\x00\x01\x00\x02\x00\x07\x00", parsed{e: api.ErrShort}},
		{"7 bytes, a length of 8", "\x00\x01\x00\x02\x00\x08\x00", parsed{e: api.ErrShort}},
		{"just 8 bytes", plain(1, 2, 8, 0, ""), parsed{1, 2, "", api.OK}},
		{"just 8 bytes, a length of 0", plain(1, 2, 0, 0, ""), parsed{e: api.ErrLength}},
		{"just 8 bytes, a length of 7", plain(1, 2, 7, 0, ""), parsed{e: api.ErrLength}},
		{"just 8 bytes, a length of 9", plain(1, 2, 9, 0, ""), parsed{e: api.ErrLength}},
		{"a length of 0, and a body", plain(1, 2, 0, 0, "body"), parsed{e: api.ErrLength}},
		{"a length of 7, and a body", plain(1, 2, 7, 0, "body"), parsed{e: api.ErrLength}},
		{"a length of 8, and something behind", plain(1, 2, 8, 0, "body"), parsed{1, 2, "", api.OK}},
		{"a length of 9, and something behind", plain(1, 2, 9, 0, "body"), parsed{1, 2, "b", api.OK}},
		{"one behind", plain(1, 2, 11, 0, "body"), parsed{1, 2, "bod", api.OK}},
		{"as many as there are", plain(1, 2, 12, 0, "body"), parsed{1, 2, "body", api.OK}},
		{"one more than there are", plain(1, 2, 13, 0, "body"), parsed{e: api.ErrLength}},
		{"a length of 256 of 12", plain(1, 2, 256, 0, "body"), parsed{e: api.ErrLength}},
		{"a length of 256 of 255", plain(1, 2, 256, 0, some(247)), parsed{e: api.ErrLength}},
		{"a length of 256 of 256", plain(1, 2, 256, 0, some(248)), parsed{1, 2, some(248), api.OK}},
		{"the greatest length of 65534", plain(1, 2, 65535, 0, some(65526)), parsed{e: api.ErrLength}},
		{"the greatest length of 65535", plain(1, 2, 65535, 0, some(65527)), parsed{1, 2, some(65527), api.OK}},
		{"the greatest length of 65536", plain(1, 2, 65535, 0, some(65528)), parsed{1, 2, some(65527), api.OK}},
		{"one more than MaxFrame, which Parse does not ask", plain(1, 2, 1501, 0, some(1493)), parsed{1, 2, some(1493), api.OK}},
		{"a check that is not 0", plain(1, 2, 9, 1, "x"), parsed{1, 2, "x", api.OK}},
		{"the greatest check", plain(1, 2, 9, 65535, "x"), parsed{1, 2, "x", api.OK}},
		{"the greatest ports", plain(65535, 65535, 9, 0, "x"), parsed{65535, 65535, "x", api.OK}},
		{"ports of 0", plain(0, 0, 9, 0, "x"), parsed{0, 0, "x", api.OK}},
		{"all bits set, 8 bytes", strings.Repeat("\xff", 8), parsed{e: api.ErrLength}},
		{"all bits set, 65535 bytes", strings.Repeat("\xff", 65535), parsed{65535, 65535, strings.Repeat("\xff", 65527), api.OK}},
		{"no bit set", strings.Repeat("\x00", 20), parsed{e: api.ErrLength}},
	} {
		if got := parse(c.s); got != c.want {
			t.Errorf("%s: Parse = %v; want %v", c.name, got, c.want)
		}
		n, ok := Size(c.s)
		if c.want.e == api.OK && (n != 8+len(c.want.body) || !ok) {
			t.Errorf("%s: Size = %d, %v; want %d, true", c.name, n, ok, 8+len(c.want.body))
		}
		if c.want.e != api.OK && (n != 0 || ok) {
			t.Errorf("%s: Size = %d, %v; want 0, false", c.name, n, ok)
		}
		checkParse(t, c.s)
	}
}

// P6.1 and P6.2: each length that there is, of texts of many sizes.
func TestLengths(t *testing.T) {
	for _, size := range []int{8, 9, 10, 15, 16, 255, 256, 257, 300} {
		body := some(size - 8)
		for length := range 1 << 16 {
			checkParse(t, plain(40000, 53, length, length, body))
		}
	}
	for _, size := range []int{1499, 1500, 1501, 4096, 65534, 65535, 65536, 65537, 70000, 1 << 17} {
		body := some(size - 8)
		for _, length := range []int{0, 1, 7, 8, 9, 255, 256, 1499, 1500, 1501, 4095, 4096, 4097, 32767, 32768, 65533, 65534, 65535, size - 1, size, size + 1} {
			checkParse(t, plain(40000, 53, length, 0, body))
		}
	}
}

// P6.1 and P6.2: texts of which each byte of the header in turn is each other one, and that end at each place.
func TestParseMany(t *testing.T) {
	for _, s := range []string{
		plain(0x0102, 0x0304, 8, 0, ""), plain(0x0102, 0x0304, 8, 0, "behind"), plain(65535, 0, 30, 0xabcd, some(22)), plain(0, 65535, 30, 0, some(40)),
		plain(53, 53, 300, 0, some(292)), plain(53, 53, 1500, 0, some(1492)), plain(53, 53, 1500, 0, some(1600)), strings.Repeat("\x00", 40), strings.Repeat("\xff", 40),
	} {
		for at := range 8 {
			for n := range 256 {
				b := []byte(s)
				b[at] = byte(n)
				checkParse(t, string(b))
			}
		}
		for cut := range len(s) + 1 {
			checkParse(t, s[:cut])
		}
	}
}

// P6.1: each check that there is, is passed over.
func TestParseChecks(t *testing.T) {
	want := parsed{40000, 53, "body", api.OK}
	for check := range 1 << 16 {
		s := plain(40000, 53, 12, check, "body")
		if got := parse(s); got != want {
			t.Fatalf("Parse(%s) = %v", brief(s), got)
		}
		if n, ok := Size(s); n != 12 || !ok {
			t.Fatalf("Size(%s) = %d, %v", brief(s), n, ok)
		}
	}
}

// P6.3: what is built is parsed as it was, with anything behind it; so is its Size.
func TestBehind(t *testing.T) {
	for _, ports := range [][2]int{{0, 0}, {40000, 53}, {65535, 65535}, {0, 65535}, {65535, 0}, {1, 256}} {
		for _, size := range []int{0, 1, 2, 7, 8, 9, 100, 247, 248, 249, 1000, 1491, 1492} {
			body := some(size)
			s, e := Build(ports[0], ports[1], body)
			if e != api.OK {
				t.Fatal(e)
			}
			want := parsed{ports[0], ports[1], body, api.OK}
			for _, behind := range []string{"", "x", "\x00", "\xff", s, some(9), strings.Repeat("\x00", 8), strings.Repeat("\xff", 1500), some(65536), some(70000)} {
				if got := parse(s + behind); got != want {
					t.Errorf("%s with %s behind is parsed as %v; want %v", brief(s), brief(behind), got, want)
				}
				if n, ok := Size(s + behind); n != 8+size || !ok {
					t.Errorf("Size of %s with %s behind = %d, %v; want %d", brief(s), brief(behind), n, ok, 8+size)
				}
			}
		}
	}
}

// P6.3, from the other side: what is parsed is built as it was, but for its check, and for what stood behind.
func TestBuiltAgain(t *testing.T) {
	for _, size := range []int{0, 1, 248, 1491, 1492} {
		src, dst, body, e := Parse(plain(40000, 53, 8+size, 0xabcd, some(size)) + "behind")
		if e != api.OK {
			t.Fatal(e)
		}
		if again, e := Build(src, dst, body); again != plain(40000, 53, 8+size, 0, some(size)) || e != api.OK {
			t.Errorf("a body of %d bytes is built again as %s, %d", size, brief(again), e)
		}
	}
}

// P3 of the rules: nothing that is handed in is written into, nor kept: what is written there afterwards changes no answer.
func TestNothingKept(t *testing.T) {
	for _, size := range []int{0, 1, 2, 3, 40, 1492} {
		s := plain(40000, 53, 8+size, 0, some(size))
		for _, behind := range []string{"", ">>"} {
			room := []byte("<<" + s + ">>")
			in := unsafe.String(&room[2], len(s)+len(behind))
			got := parse(in)
			n, ok := Size(in)
			if string(room) != "<<"+s+">>" {
				t.Errorf("the datagram that was handed in is now %s", brief(string(room)))
			}
			clear(room)
			if want := (parsed{40000, 53, some(size), api.OK}); got != want || n != 8+size || !ok {
				t.Errorf("a body of %d bytes: what was parsed became %v; Size %d, %v", size, got, n, ok)
			}
		}

		room := []byte("<<" + some(size) + ">>")
		built, e := Build(40000, 53, unsafe.String(&room[2], size))
		if string(room) != "<<"+some(size)+">>" {
			t.Errorf("the body that was handed in is now %s", brief(string(room)))
		}
		clear(room)
		if built != s || e != api.OK {
			t.Errorf("what was built became %s, %d; want %s", brief(built), e, brief(s))
		}
	}
}
