package pseudo

import (
	"encoding/binary"
	"fmt"
	"math"
	"strings"
	"testing"
	"unsafe"

	"weighbridge/api"
	"weighbridge/tcp"
	"weighbridge/udp"
)

// some is a text of that many bytes, which go up and down.
func some(size int) string {
	b := make([]byte, size)
	for i := range b {
		b[i] = byte(i*i*7 + i/3 + 11)
	}
	return string(b)
}

// datagram is one of UDP byte by byte, whatever its length and its check are to be.
func datagram(src, dst, length, check int, body string) string {
	b := binary.BigEndian.AppendUint16(nil, uint16(src))
	b = binary.BigEndian.AppendUint16(b, uint16(dst))
	b = binary.BigEndian.AppendUint16(b, uint16(length))
	b = binary.BigEndian.AppendUint16(b, uint16(check))
	return string(b) + body
}

// segment is one of TCP byte by byte, whatever its check is to be.
func segment(src, dst, check int, body string) string {
	b := binary.BigEndian.AppendUint16(nil, uint16(src))
	b = binary.BigEndian.AppendUint16(b, uint16(dst))
	b = append(b, 0, 0, 3, 232, 0, 0, 0, 0, 0x50, 0x02, 250, 240)
	b = binary.BigEndian.AppendUint16(b, uint16(check))
	return string(append(b, 0, 0)) + body
}

// with is s with that check in its place; it must have room there.
func with(proto int, s string, check int) string {
	at, _ := placePlain(proto)
	b := []byte(s)
	binary.BigEndian.PutUint16(b[at:], uint16(check))
	return string(b)
}

// sumPlain says the Sum of chapter 3 over again, by its remainder: what is carried round is never 0, unless all is.
func sumPlain(s string) int {
	n := 0
	for i := range len(s) {
		n += int(s[i]) << (8 * (1 - i%2))
	}
	if n == 0 {
		return 0
	}
	return (n-1)%65535 + 1
}

// placePlain says P8.1 of Place over again.
func placePlain(proto int) (int, bool) {
	switch proto {
	case 6:
		return 16, true
	case 17:
		return 6, true
	}
	return 0, false
}

// coveredPlain says over again which part is covered.
func coveredPlain(proto int, s string) string {
	if proto == 17 && len(s) >= 8 {
		if length := int(s[4])*256 + int(s[5]); 8 <= length && length <= len(s) {
			return s[:length]
		}
	}
	return s
}

// summedPlain is all that is summed, byte by byte, with what stands in the place.
func summedPlain(proto int, src, dst uint32, s string) string {
	part := coveredPlain(proto, s)
	b := binary.BigEndian.AppendUint32(nil, src)
	b = binary.BigEndian.AppendUint32(b, dst)
	b = append(b, 0, byte(proto), byte(len(part)>>8), byte(len(part)))
	return string(b) + part
}

// checkPlain says P8.1 of Check over again.
func checkPlain(proto int, src, dst uint32, s string) (uint16, bool) {
	at, ok := placePlain(proto)
	if !ok || len(coveredPlain(proto, s)) < at+2 {
		return 0, false
	}
	b := []byte(summedPlain(proto, src, dst, s))
	b[12+at], b[12+at+1] = 0, 0
	check := 65535 - sumPlain(string(b))
	if proto == 17 && check == 0 {
		check = 65535
	}
	return uint16(check), true
}

// fillPlain says P8.2 of Fill over again.
func fillPlain(proto int, src, dst uint32, s string) (string, bool) {
	check, ok := checkPlain(proto, src, dst, s)
	if !ok {
		return "", false
	}
	return with(proto, s, int(check)), true
}

// verifyPlain says P8.2 of Verify over again.
func verifyPlain(proto int, src, dst uint32, s string) api.Errno {
	if _, ok := placePlain(proto); !ok {
		return api.ErrProto
	}
	if _, ok := checkPlain(proto, src, dst, s); !ok {
		return api.ErrShort
	}
	if proto == 17 && s[6] == 0 && s[7] == 0 {
		return api.OK
	}
	if sumPlain(summedPlain(proto, src, dst, s)) != 65535 {
		return api.ErrSum
	}
	return api.OK
}

// brief is s, or how long it is.
func brief(s string) string {
	if len(s) > 40 {
		return fmt.Sprintf("%x.. (%d bytes)", s[:40], len(s))
	}
	return fmt.Sprintf("%x", s)
}

// all holds each call against what it must be, and (P8.3) what is filled against what is verified.
func all(t *testing.T, proto int, src, dst uint32, s string) {
	t.Helper()
	args := func() string { return fmt.Sprintf("(%d, %08x, %08x, %s)", proto, src, dst, brief(s)) }
	wantCheck, wantOK := checkPlain(proto, src, dst, s)
	wantFill, _ := fillPlain(proto, src, dst, s)
	wantE := verifyPlain(proto, src, dst, s)
	for range 2 {
		if check, ok := Check(proto, src, dst, s); check != wantCheck || ok != wantOK {
			t.Fatalf("Check%s = %04x, %v; want %04x, %v", args(), check, ok, wantCheck, wantOK)
		}
		if filled, ok := Fill(proto, src, dst, s); filled != wantFill || ok != wantOK {
			t.Fatalf("Fill%s = %s, %v; want %s, %v", args(), brief(filled), ok, brief(wantFill), wantOK)
		}
		if e := Verify(proto, src, dst, s); e != wantE {
			t.Fatalf("Verify%s = %d; want %d", args(), e, wantE)
		}
	}
	if !wantOK {
		return
	}
	if e := Verify(proto, src, dst, wantFill); e != api.OK {
		t.Fatalf("Verify of what Fill%s answers = %d", args(), e)
	}
	if check, ok := Check(proto, src, dst, wantFill); check != wantCheck || !ok {
		t.Fatalf("Check of what Fill%s answers = %04x, %v; want %04x", args(), check, ok, wantCheck)
	}
}

var addresses = []uint32{0, 1, 255, 256, 65535, 65536, 0x01020304, 10<<24 | 1, 1<<31 - 1, 1 << 31, 1<<32 - 2, 1<<32 - 1}

// wrongProtos have no place: beside the two that have, far off, and such as are one of the two in their lowest bits.
var wrongProtos = []int{0, 1, 2, 5, 7, 8, 15, 16, 18, 19, 127, 128, 254, 255, 256, 256 + 6, 256 + 17, 65536 + 6, 65536 + 17, 1<<32 + 6, 1<<32 + 17, 1<<56 + 6, 1 << 62,
	math.MaxInt - 1, math.MaxInt, -1, -6, -17, -250, -239, -256 + 6, -256 + 17, -1<<32 + 6, -1<<32 + 17, math.MinInt, math.MinInt + 6, math.MinInt + 17}

// P8.1: Place of TCP, of UDP, and of no other number, of whatever size.
func TestPlace(t *testing.T) {
	if at, ok := Place(6); at != 16 || !ok { // the chapter's example
		t.Errorf("Place(6) = %d, %v; want 16, true", at, ok)
	}
	if at, ok := Place(17); at != 6 || !ok {
		t.Errorf("Place(17) = %d, %v; want 6, true", at, ok)
	}
	for _, proto := range wrongProtos {
		if at, ok := Place(proto); at != 0 || ok {
			t.Errorf("Place(%d) = %d, %v; want 0, false", proto, at, ok)
		}
	}
	for proto := -70000; proto <= 70000; proto++ {
		want, wantOK := placePlain(proto)
		if at, ok := Place(proto); at != want || ok != wantOK {
			t.Fatalf("Place(%d) = %d, %v; want %d, %v", proto, at, ok, want, wantOK)
		}
	}
}

// P8.1 and P8.2: checks that were reckoned elsewhere.
func TestCheck(t *testing.T) {
	const a, b, top = 10<<24 | 1, 10<<24 | 2, 1<<32 - 1
	for _, c := range []struct {
		name     string
		proto    int
		src, dst uint32
		s        string
		want     uint16
	}{
		{"UDP", 17, a, b, datagram(40000, 53, 12, 0, "body"), 0x8875},
		{"UDP, something behind", 17, a, b, datagram(40000, 53, 12, 0, "bodybehind"), 0x8875},
		{"UDP, something in the place", 17, a, b, datagram(40000, 53, 12, 0x1234, "body"), 0x8875},
		{"UDP, all of it in the place", 17, a, b, datagram(40000, 53, 12, 65535, "body"), 0x8875},
		{"UDP, turned ends", 17, b, a, datagram(40000, 53, 12, 0, "body"), 0x8875},
		{"UDP, an odd one", 17, 0, 0, datagram(1, 2, 9, 0, "x"), 0x87d9},
		{"UDP, an odd one, the greatest addresses", 17, top, top, datagram(1, 2, 9, 0, "x"), 0x87d9},
		{"UDP, an odd one, something behind", 17, 0, 0, datagram(1, 2, 9, 0, "xyz"), 0x87d9},
		{"UDP, no body, a length of 8", 17, 0, 0, datagram(0, 0, 8, 0, ""), 0xffde},
		{"UDP, no body, a length of 0: all", 17, 0, 0, datagram(0, 0, 0, 0, ""), 0xffe6},
		{"UDP, no body, a length of 7: all", 17, 0, 0, datagram(0, 0, 7, 0, ""), 0xffdf},
		{"UDP, no body, a length of 9: all", 17, 0, 0, datagram(0, 0, 9, 0, ""), 0xffdd},
		{"UDP, that would be 0", 17, 0, 0, datagram(0xffde, 0, 8, 0, ""), 0xffff},
		{"UDP, one more than that", 17, 0, 0, datagram(0xffdd, 0, 8, 0, ""), 0x0001},
		{"UDP, one less than that", 17, 0, 0, datagram(0xffdf, 0, 8, 0, ""), 0xfffe},
		{"TCP", 6, a, b, segment(40000, 80, 0, ""), 0x0077},
		{"TCP, something in the place", 6, a, b, segment(40000, 80, 0xabcd, ""), 0x0077},
		{"TCP, all of it in the place", 6, a, b, segment(40000, 80, 65535, ""), 0x0077},
		{"TCP, no addresses", 6, 0, 0, segment(40000, 80, 0, ""), 0x147a},
		{"TCP, the greatest addresses", 6, top, top, segment(40000, 80, 0, ""), 0x147a},
		{"TCP, an odd one", 6, a, b, segment(40000, 80, 0, "q"), 0x8f75},
		{"TCP, just room for its check", 6, 0, 0, strings.Repeat("\x00", 18), 0xffe7},
		{"TCP, one byte more", 6, 0, 0, strings.Repeat("\x00", 19), 0xffe6},
		{"TCP, what would be a length of UDP", 6, 0, 0, "\x00\x00\x00\x00\x00\x08" + strings.Repeat("\x00", 12), 0xffdf},
		{"TCP, that is 0", 6, 0, 0, "\xff\xe7" + strings.Repeat("\x00", 16), 0x0000},
		{"TCP, one more than that", 6, 0, 0, "\xff\xe6" + strings.Repeat("\x00", 16), 0x0001},
		{"TCP, one less than that", 6, 0, 0, "\xff\xe8" + strings.Repeat("\x00", 16), 0xfffe},
	} {
		if check, ok := Check(c.proto, c.src, c.dst, c.s); check != c.want || !ok {
			t.Errorf("%s: Check = %04x, %v; want %04x, true", c.name, check, ok, c.want)
		}
		if filled, ok := Fill(c.proto, c.src, c.dst, c.s); filled != with(c.proto, c.s, int(c.want)) || !ok {
			t.Errorf("%s: Fill(%s) = %s, %v", c.name, brief(c.s), brief(filled), ok)
		}
		if e := Verify(c.proto, c.src, c.dst, with(c.proto, c.s, int(c.want))); e != api.OK {
			t.Errorf("%s: Verify with the right check = %d", c.name, e)
		}
		if e := Verify(c.proto, c.src, c.dst, with(c.proto, c.s, int(c.want^2))); e != api.ErrSum {
			t.Errorf("%s: Verify with another check = %d; want ErrSum", c.name, e)
		}
		all(t, c.proto, c.src, c.dst, c.s)
	}
}

// P8.1 and P8.2: protocols without a place, whatever the segment, also where it is too short: ErrProto is named first.
func TestNoPlace(t *testing.T) {
	for _, proto := range wrongProtos {
		for _, s := range []string{"", "\x00", some(7), some(8), some(17), some(18), some(40), datagram(1, 2, 9, 0, "x"), segment(40000, 80, 0x147a, ""), strings.Repeat("\xff", 1500)} {
			if check, ok := Check(proto, 1, 2, s); check != 0 || ok {
				t.Errorf("Check(%d, %s) = %04x, %v; want 0, false", proto, brief(s), check, ok)
			}
			if filled, ok := Fill(proto, 1, 2, s); filled != "" || ok {
				t.Errorf("Fill(%d, %s) = %s, %v; want nothing, false", proto, brief(s), brief(filled), ok)
			}
			if e := Verify(proto, 1, 2, s); e != api.ErrProto {
				t.Errorf("Verify(%d, %s) = %d; want ErrProto", proto, brief(s), e)
			}
		}
	}
}

// P8.1 and P8.2: segments of just so many bytes that the check has room, and of fewer, down to none.
func TestShort(t *testing.T) {
	for _, c := range []struct{ proto, room int }{{6, 18}, {17, 8}} {
		for _, from := range []string{some(40), strings.Repeat("\x00", 40), strings.Repeat("\xff", 40), datagram(1, 2, 8, 0, some(32)), datagram(0, 0, 6, 0, some(32)), segment(40000, 80, 0, some(20))} {
			for size := range len(from) {
				s := from[:size]
				check, ok := Check(c.proto, 1, 2, s)
				filled, filledOK := Fill(c.proto, 1, 2, s)
				e := Verify(c.proto, 1, 2, s)
				if size < c.room && (check != 0 || ok || filled != "" || filledOK || e != api.ErrShort) {
					t.Errorf("of %d, %d bytes: Check %04x, %v; Fill %s, %v; Verify %d; want nothing, ErrShort", c.proto, size, check, ok, brief(filled), filledOK, e)
				}
				if size >= c.room && (!ok || len(filled) != size || !filledOK || e == api.ErrShort || e == api.ErrProto) {
					t.Errorf("of %d, %d bytes: Check %04x, %v; Fill %s, %v; Verify %d", c.proto, size, check, ok, brief(filled), filledOK, e)
				}
				all(t, c.proto, 0x01020304, 0xfffefdfc, s)
			}
		}
	}
}

// P8.1 and P8.2: each size up to some more than a packet has, even and odd.
func TestSizes(t *testing.T) {
	for size := range 1600 {
		all(t, 6, 0x01020304, 0x05060708, some(size))
		all(t, 17, 0x01020304, 0x05060708, some(size))
		all(t, 17, 0x01020304, 0x05060708, datagram(40000, 53, 8+size, size, some(size)))
		all(t, 17, 0x01020304, 0x05060708, datagram(40000, 53, 8+size/2, 0, some(size)))
		all(t, 6, 0xffffffff, 0xffffffff, strings.Repeat("\xff", size))
		all(t, 17, 0xffffffff, 0xffffffff, strings.Repeat("\xff", size))
	}
	for n := range 256 {
		odd := string([]byte{byte(n)})
		all(t, 6, 0, 0, segment(1, 2, 0, odd))
		all(t, 17, 0, 0, datagram(1, 2, 9, 0, odd))
		all(t, 17, 0, 0, datagram(1, 2, 8, 0, odd))
	}
}

// The covered part of UDP: its first bytes, if its length is one; else all. What it is of is all of TCP, whatever stands where UDP has its length.
func TestLengths(t *testing.T) {
	for _, size := range []int{8, 9, 10, 11, 255, 256, 257} {
		body := some(size - 8)
		for length := range 1 << 16 {
			s := datagram(40000, 53, length, 0xabcd, body)
			want, wantOK := checkPlain(17, 1, 2, s)
			if check, ok := Check(17, 1, 2, s); check != want || ok != wantOK {
				t.Fatalf("%d bytes, a length of %d: Check = %04x, %v; want %04x, %v", size, length, check, ok, want, wantOK)
			}
			if e, want := Verify(17, 1, 2, s), verifyPlain(17, 1, 2, s); e != want {
				t.Fatalf("%d bytes, a length of %d: Verify = %d; want %d", size, length, e, want)
			}
		}
	}
	for _, size := range []int{8, 9, 18, 19, 20, 21, 300, 1499, 1500, 1501, 65534, 65535, 65536, 65537, 70000} {
		body := some(size - 8)
		for _, length := range []int{0, 1, 5, 6, 7, 8, 9, 17, 18, 19, 255, 256, size - 2, size - 1, size, size + 1, 65534, 65535} {
			s := datagram(40000, 53, length, 0, body)
			all(t, 17, 0x01020304, 0x05060708, s)
			all(t, 6, 0x01020304, 0x05060708, s)
		}
	}
}

// The covered part of UDP: what stands behind it counts for nothing, and stays; of TCP, and where the length is none, it counts.
func TestBehind(t *testing.T) {
	behinds := []string{"x", "\x01", "\xff", "\xff\xff", "odd", some(9), strings.Repeat("\xff", 1500), some(65536), some(70001)}
	for _, size := range []int{0, 1, 2, 3, 100, 101, 1491, 1492} {
		s := datagram(40000, 53, 8+size, 0, some(size))
		want, _ := checkPlain(17, 7, 8, s)
		filled := with(17, s, int(want))
		for _, behind := range append(behinds, s, filled, "\x00", "\x00\x00") {
			if check, ok := Check(17, 7, 8, s+behind); check != want || !ok {
				t.Errorf("%s with %s behind: Check = %04x, %v; want %04x", brief(s), brief(behind), check, ok, want)
			}
			if got, ok := Fill(17, 7, 8, s+behind); got != filled+behind || !ok {
				t.Errorf("%s with %s behind: Fill = %s, %v", brief(s), brief(behind), brief(got), ok)
			}
			if e := Verify(17, 7, 8, filled+behind); e != api.OK {
				t.Errorf("%s with %s behind: Verify = %d", brief(filled), brief(behind), e)
			}
		}
		none := datagram(40000, 53, 0, 0, some(size))
		whole := segment(40000, 80, 0, some(size))
		for _, behind := range behinds {
			for _, c := range []struct {
				proto int
				s     string
			}{{17, none}, {6, whole}} {
				alone, ok := Fill(c.proto, 7, 8, c.s)
				if !ok {
					t.Fatalf("Fill(%d, %s)", c.proto, brief(c.s))
				}
				if e, want := Verify(c.proto, 7, 8, alone+behind), verifyPlain(c.proto, 7, 8, alone+behind); e != want {
					t.Errorf("of %d, %s with %s behind: Verify = %d; want %d", c.proto, brief(alone), brief(behind), e, want)
				}
				all(t, c.proto, 7, 8, c.s+behind)
			}
		}
	}
	filled, _ := Fill(6, 7, 8, segment(40000, 80, 0, "ab"))
	for _, behind := range []string{"x", "\x00", "\x00\x00"} { // zeros too, as they are counted
		if e := Verify(6, 7, 8, filled+behind); e != api.ErrSum {
			t.Errorf("TCP with %s behind: Verify = %d; want ErrSum", brief(behind), e)
		}
	}
}

// P8.1: how many bytes are covered is told modulo 65536: two texts of zeros, 65536 bytes apart, have one check.
func TestLong(t *testing.T) {
	for _, proto := range []int{6, 17} {
		for _, size := range []int{18, 19, 20, 1000, 65534, 65535} {
			near := strings.Repeat("\x00", size)
			want, ok := Check(proto, 3, 4, near)
			if !ok {
				t.Fatal(proto, size)
			}
			for _, more := range []int{65536, 2 * 65536, 16 * 65536} {
				far := near + strings.Repeat("\x00", more)
				if check, ok := Check(proto, 3, 4, far); check != want || !ok {
					t.Errorf("of %d, %d bytes: Check = %04x, %v; want %04x", proto, size+more, check, ok, want)
				}
				all(t, proto, 3, 4, far)
			}
		}
		for _, c := range []struct {
			size int
			want uint16
		}{
			{65535, 0xffff - uint16(proto)}, {65536, 0xffff - uint16(proto)}, {65537, 0xfffe - uint16(proto)}, {65538, 0xfffd - uint16(proto)}, {131071, 0xffff - uint16(proto)}, {131072, 0xffff - uint16(proto)},
		} {
			if check, ok := Check(proto, 0, 0, strings.Repeat("\x00", c.size)); check != c.want || !ok {
				t.Errorf("of %d, %d zeros: Check = %04x, %v; want %04x", proto, c.size, check, ok, c.want)
			}
		}
		for _, size := range []int{65533, 65534, 65535, 65536, 65537, 65538, 70000, 131071, 131072, 131073, 1 << 20} {
			all(t, proto, 0x01020304, 0xffffffff, some(size))
			all(t, proto, 0x01020304, 0xffffffff, strings.Repeat("\xff", size))
			all(t, proto, 0x01020304, 0xffffffff, datagram(1, 2, 7, 0, some(size-8)))
		}
	}
}

// P8.1 and P8.2: each number that can stand in the place: what it is counts for nothing to Check and Fill, and to Verify just the right one is right; of UDP 0, too.
func TestStood(t *testing.T) {
	for _, c := range []struct {
		name  string
		proto int
		s     string
		right []int
	}{
		{"UDP", 17, datagram(40000, 53, 12, 0, "body"), []int{0, 0x8875}},
		{"UDP, an odd one, something behind", 17, datagram(40000, 53, 11, 0, "odd behind"), nil},
		{"UDP, a length that is none", 17, datagram(40000, 53, 3, 0, "odd behind"), nil},
		{"UDP, a length of 8", 17, datagram(40000, 53, 8, 0, ""), nil},
		{"UDP, that would be 0", 17, datagram(0xebdb, 0, 8, 0, ""), []int{0, 65535}},
		{"TCP", 6, segment(40000, 80, 0, ""), []int{0x0077}},
		{"TCP, an odd one", 6, segment(40000, 80, 0, "q"), []int{0x8f75}},
		{"TCP, just room", 6, some(18), nil},
		{"TCP, that is 0", 6, "\xeb\xe4" + strings.Repeat("\x00", 16), []int{0, 65535}},
	} {
		const src, dst = 10<<24 | 1, 10<<24 | 2
		want, ok := checkPlain(c.proto, src, dst, c.s)
		if !ok {
			t.Fatal(c.name)
		}
		right := c.right
		if right == nil && c.proto == 17 {
			right = []int{0, int(want)}
		} else if right == nil {
			right = []int{int(want)}
		}
		filled := with(c.proto, c.s, int(want))
		var taken []int
		for stood := range 1 << 16 {
			s := with(c.proto, c.s, stood)
			if check, ok := Check(c.proto, src, dst, s); check != want || !ok {
				t.Fatalf("%s: with %04x there Check = %04x, %v; want %04x", c.name, stood, check, ok, want)
			}
			if got, ok := Fill(c.proto, src, dst, s); got != filled || !ok {
				t.Fatalf("%s: with %04x there Fill = %s, %v; want %s", c.name, stood, brief(got), ok, brief(filled))
			}
			e := Verify(c.proto, src, dst, s)
			if e == api.OK {
				taken = append(taken, stood)
			} else if e != api.ErrSum {
				t.Fatalf("%s: with %04x there Verify = %d", c.name, stood, e)
			}
		}
		if fmt.Sprint(taken) != fmt.Sprint(right) {
			t.Errorf("%s: Verify takes %04x; want %04x", c.name, taken, right)
		}
	}
}

// P8.1: a check that would be 0, found from each first word that there is: of UDP it is 65535, of TCP it stays 0.
func TestZeroCheck(t *testing.T) {
	for _, addr := range addresses {
		zeros := map[int]int{}
		for word := range 1 << 16 {
			u, _ := Check(17, addr, 5, datagram(word, 53, 12, 0, "body"))
			if u == 0 {
				t.Fatalf("the check of UDP from %d is 0", word)
			}
			if u == 65535 {
				zeros[17]++
			}
			if c, _ := Check(6, addr, 5, segment(word, 80, 0, "body")); c == 0 {
				zeros[6]++
			} else if c == 65535 {
				t.Fatalf("the check of TCP from %d is 65535", word)
			}
		}
		for _, proto := range []int{6, 17} {
			if zeros[proto] < 1 || zeros[proto] > 2 { // 0 and 65535 as words are alike to a sum
				t.Errorf("from %08x, of %d: %d such words", addr, proto, zeros[proto])
			}
		}
	}
}

// P8.2: UDP with 0 in the place is right, whatever else; TCP with 0 there is not, unless 0 is its check.
func TestNoCheck(t *testing.T) {
	for _, body := range []string{"", "x", "body", "odd", some(300), strings.Repeat("\xff", 1492)} {
		for _, length := range []int{0, 7, 8, 9, 8 + len(body), 9 + len(body), 65535} {
			for _, src := range addresses {
				for _, dst := range addresses {
					if e := Verify(17, src, dst, datagram(40000, 53, length, 0, body)); e != api.OK {
						t.Errorf("UDP without a check, a length of %d of %d: Verify = %d", length, 8+len(body), e)
					}
				}
			}
		}
		if e := Verify(6, 1, 2, segment(40000, 80, 0, body)); e != api.ErrSum {
			t.Errorf("TCP with a check of 0, a body of %d: Verify = %d; want ErrSum", len(body), e)
		}
	}
	for _, half := range []int{1, 255, 256, 0xff00} { // one byte of 0 is not a check of 0
		if e := Verify(17, 1, 2, datagram(40000, 53, 12, half, "body")); e != api.ErrSum {
			t.Errorf("UDP with a check of %04x: Verify = %d; want ErrSum", half, e)
		}
	}
	if e := Verify(17, 1, 2, strings.Repeat("\x00", 7)); e != api.ErrShort {
		t.Errorf("UDP of 7 zeros: Verify = %d; want ErrShort", e)
	}
	if e := Verify(17, 1, 2, strings.Repeat("\x00", 8)); e != api.OK {
		t.Errorf("UDP of 8 zeros: Verify = %d; want OK", e)
	}
}

// P8.1 and P8.2: addresses at their edges, and with each bit alone and each bit missing.
func TestAddresses(t *testing.T) {
	list := append([]uint32{}, addresses...)
	for i := range 32 {
		list = append(list, 1<<i, ^(uint32(1) << i))
	}
	for _, src := range list {
		for _, dst := range list {
			all(t, 6, src, dst, segment(40000, 80, 0x1234, "odd"))
			all(t, 17, src, dst, datagram(40000, 53, 12, 0x1234, "body behind"))
		}
	}
	u, _ := Fill(17, 0x01020304, 0x05060708, datagram(40000, 53, 12, 0, "body"))
	c, _ := Fill(6, 0x01020304, 0x05060708, segment(40000, 80, 0, "body"))
	for i := range 32 {
		for _, ends := range [][2]uint32{{0x01020304 ^ 1<<i, 0x05060708}, {0x01020304, 0x05060708 ^ 1<<i}} {
			if e := Verify(17, ends[0], ends[1], u); e != api.ErrSum {
				t.Errorf("UDP with the bit %d of an address turned: Verify = %d; want ErrSum", i, e)
			}
			if e := Verify(6, ends[0], ends[1], c); e != api.ErrSum {
				t.Errorf("TCP with the bit %d of an address turned: Verify = %d; want ErrSum", i, e)
			}
		}
	}
}

// P8.2: the protocol is summed, too: what is filled as of the one is not right as of the other.
func TestOtherProtocol(t *testing.T) {
	s := segment(40000, 80, 0, "")
	check, _ := Check(6, 1, 2, s)
	other := summedPlain(6, 1, 2, with(6, s, int(check)))
	if sumPlain(other) != 65535 || sumPlain(other[:9]+"\x11"+other[10:]) == 65535 {
		t.Errorf("Check(6) = %04x does not sum the protocol", check)
	}
	zeros := strings.Repeat("\x00", 18)
	a, _ := Check(6, 1, 2, zeros)
	b, _ := Check(17, 1, 2, zeros)
	if a-b != 11 {
		t.Errorf("checks of 18 zeros: %04x of TCP, %04x of UDP; want 11 apart", a, b)
	}
}

// P8.2: Fill changes the two bytes of the check alone.
func TestFillAlone(t *testing.T) {
	for _, proto := range []int{6, 17} {
		at, _ := placePlain(proto)
		for _, size := range []int{18, 19, 20, 21, 40, 301, 1500, 65536, 70001} {
			for _, s := range []string{some(size), strings.Repeat("\x00", size), strings.Repeat("\xff", size), datagram(1, 2, 9, 3, some(size-8)), datagram(1, 2, size, 3, some(size-8))} {
				filled, ok := Fill(proto, 0x01020304, 0x05060708, s)
				if !ok || len(filled) != len(s) || filled[:at] != s[:at] || filled[at+2:] != s[at+2:] {
					t.Errorf("Fill(%d, %s) = %s, %v: what is beside the check is another one", proto, brief(s), brief(filled), ok)
					continue
				}
				check, _ := checkPlain(proto, 0x01020304, 0x05060708, s)
				if got := uint16(filled[at])<<8 | uint16(filled[at+1]); got != check {
					t.Errorf("Fill(%d, %s) has %04x; want %04x", proto, brief(s), got, check)
				}
				if again, ok := Fill(proto, 0x01020304, 0x05060708, filled); again != filled || !ok {
					t.Errorf("Fill(%d, %s) filled again is %s, %v", proto, brief(s), brief(again), ok)
				}
			}
		}
	}
}

// P8.2: what Verify answers, by examples.
func TestVerify(t *testing.T) {
	for _, c := range []struct {
		name     string
		proto    int
		src, dst uint32
		s        string
		want     api.Errno
	}{
		{"nothing, of none", 0, 0, 0, "", api.ErrProto},
		{"ICMP", 1, 1, 2, "\x03\x04\xfc\xfb\x00\x00\x00\x00", api.ErrProto},
		{"ICMP, too short", 1, 1, 2, "\x03", api.ErrProto},
		{"below 0, too short", -1, 1, 2, "", api.ErrProto},
		{"UDP, nothing", 17, 0, 0, "", api.ErrShort},
		{"UDP, half a check", 17, 0, 0, "\x00\x00\x00\x00\x00\x08\xff", api.ErrShort},
		{"UDP, half a check of 0", 17, 0, 0, "\x00\x00\x00\x00\x00\x07\x00", api.ErrShort},
		{"UDP, just room", 17, 0, 0, "\x00\x00\x00\x00\x00\x08\xff\xde", api.OK},
		{"UDP, one more", 17, 0, 0, "\x00\x00\x00\x00\x00\x08\xff\xdf", api.ErrSum},
		{"UDP, one less", 17, 0, 0, "\x00\x00\x00\x00\x00\x08\xff\xdd", api.ErrSum},
		{"UDP, its bytes turned", 17, 0, 0, "\x00\x00\x00\x00\x00\x08\xde\xff", api.ErrSum},
		{"UDP, something behind", 17, 0, 0, "\x00\x00\x00\x00\x00\x08\xff\xdex", api.OK},
		{"UDP, no length: all", 17, 0, 0, "\x00\x00\x00\x00\x00\x00\xff\xe6", api.OK},
		{"UDP, no length, something behind, which counts", 17, 0, 0, "\x00\x00\x00\x00\x00\x00\xff\xe6x", api.ErrSum},
		{"UDP, a length of more than there is: all", 17, 0, 0, "\x00\x00\x00\x00\x00\x09\xff\xdd", api.OK},
		{"UDP, no check", 17, 9, 9, "\x00\x01\x00\x02\x00\x09\x00\x00x", api.OK},
		{"UDP, 65535 where it is right", 17, 0, 0, "\xff\xde\x00\x00\x00\x08\xff\xff", api.OK},
		{"UDP, 65535 where it is not", 17, 0, 0, "\xff\xdf\x00\x00\x00\x08\xff\xff", api.ErrSum},
		{"TCP, nothing", 6, 0, 0, "", api.ErrShort},
		{"TCP, 16 bytes", 6, 0, 0, strings.Repeat("\x00", 16), api.ErrShort},
		{"TCP, half a check", 6, 0, 0, strings.Repeat("\x00", 16) + "\xff", api.ErrShort},
		{"TCP, 17 bytes of a wrong sum", 6, 0, 0, some(17), api.ErrShort},
		{"TCP, just room", 6, 0, 0, strings.Repeat("\x00", 16) + "\xff\xe7", api.OK},
		{"TCP, one more", 6, 0, 0, strings.Repeat("\x00", 16) + "\xff\xe8", api.ErrSum},
		{"TCP, one less", 6, 0, 0, strings.Repeat("\x00", 16) + "\xff\xe6", api.ErrSum},
		{"TCP, no check", 6, 0, 0, strings.Repeat("\x00", 18), api.ErrSum},
		{"TCP, 0 where it is right", 6, 0, 0, "\xff\xe7" + strings.Repeat("\x00", 16), api.OK},
		{"TCP, 65535 where 0 is right, too", 6, 0, 0, "\xff\xe7" + strings.Repeat("\x00", 14) + "\xff\xff", api.OK},
		{"TCP", 6, 10<<24 | 1, 10<<24 | 2, segment(40000, 80, 0x0077, ""), api.OK},
		{"TCP, turned ends", 6, 10<<24 | 2, 10<<24 | 1, segment(40000, 80, 0x0077, ""), api.OK},
		{"TCP, another end", 6, 10<<24 | 3, 10<<24 | 2, segment(40000, 80, 0x0077, ""), api.ErrSum},
		{"TCP, something behind", 6, 10<<24 | 1, 10<<24 | 2, segment(40000, 80, 0x0077, "q"), api.ErrSum},
	} {
		if e := Verify(c.proto, c.src, c.dst, c.s); e != c.want {
			t.Errorf("%s: Verify = %d; want %d", c.name, e, c.want)
		}
		all(t, c.proto, c.src, c.dst, c.s)
	}
}

// P8.3: what is filled is verified; with one bit turned it is not, unless it then has another covered part, or no check.
func TestOneBitTurned(t *testing.T) {
	const src, dst = 0x0a000001, 0xc0a80002
	for _, body := range []string{"", "x", "ab", "odd", "\x00", "\xff\xff", strings.Repeat("\x00", 21), strings.Repeat("\xff", 22), some(247), some(1460)} {
		for _, c := range []struct {
			proto int
			s     string
		}{{6, segment(40000, 80, 0, body)}, {17, datagram(40000, 53, 8+len(body), 0, body)}} {
			filled, ok := Fill(c.proto, src, dst, c.s)
			if e := Verify(c.proto, src, dst, filled); !ok || e != api.OK {
				t.Fatalf("of %d, %s is filled as %s, %v: %d", c.proto, brief(c.s), brief(filled), ok, e)
			}
			b := []byte(filled)
			for bit := range 8 * len(b) {
				b[bit/8] ^= 1 << (bit % 8)
				want := verifyPlain(c.proto, src, dst, string(b))
				if c.proto == 6 || bit/8 < 4 || bit/8 > 7 {
					want = api.ErrSum
				}
				if e := Verify(c.proto, src, dst, string(b)); e != want {
					t.Fatalf("of %d, %s with the bit %d turned: Verify = %d; want %d", c.proto, brief(filled), bit, e, want)
				}
				b[bit/8] ^= 1 << (bit % 8)
			}
		}
	}
}

// P8.3: what chapters 5 and 6 build is filled and verified, and is then parsed as it was.
func TestBuilt(t *testing.T) {
	for _, size := range []int{0, 1, 2, 3, 100, 1459, 1460} {
		h := tcp.Header{SrcPort: 40000, DstPort: 80, Seq: 0x01020304, Flags: tcp.Syn, Window: 64240, Opts: "\x02\x04\x05\xb4"}
		s, e := tcp.Build(h, some(size))
		filled, ok := Fill(api.Tcp, 10<<24|1, 10<<24|2, s)
		if e != api.OK || !ok || Verify(api.Tcp, 10<<24|1, 10<<24|2, filled) != api.OK {
			t.Fatalf("TCP, a body of %d: %d, %v", size, e, ok)
		}
		if x, body, e := tcp.Parse(filled); x != h || body != some(size) || e != api.OK {
			t.Errorf("TCP, a body of %d, is parsed as %v, %d", size, x, e)
		}
		s, e = udp.Build(40000, 53, some(size))
		filled, ok = Fill(api.Udp, 10<<24|1, 10<<24|2, s+"behind")
		if e != api.OK || !ok || Verify(api.Udp, 10<<24|1, 10<<24|2, filled) != api.OK {
			t.Fatalf("UDP, a body of %d: %d, %v", size, e, ok)
		}
		if src, dst, body, e := udp.Parse(filled); src != 40000 || dst != 53 || body != some(size) || e != api.OK {
			t.Errorf("UDP, a body of %d, is parsed as %d, %d, %d", size, src, dst, e)
		}
	}
}

// P8.1 to P8.3: texts of which each byte in turn is each other one, and that end at each place.
func TestMany(t *testing.T) {
	for _, s := range []string{
		datagram(40000, 53, 12, 0x8875, "body"), datagram(0xffff, 0xffff, 30, 0xffff, some(40)), datagram(0, 0, 0, 0, "odd"), segment(40000, 80, 0x0077, ""), segment(0, 0, 0, some(13)),
		strings.Repeat("\x00", 40), strings.Repeat("\xff", 41), some(300),
	} {
		for _, proto := range []int{6, 17, 1} {
			for at := range min(len(s), 20) {
				for n := range 256 {
					b := []byte(s)
					b[at] = byte(n)
					all(t, proto, 10<<24|1, 10<<24|2, string(b))
				}
			}
			for cut := range len(s) + 1 {
				all(t, proto, 10<<24|1, 10<<24|2, s[:cut])
				all(t, proto, 10<<24|1, 10<<24|2, s[cut:])
			}
		}
	}
}

// P3 of the rules: nothing that is handed in is written into, nor what stands around it, nor kept: what is written there afterwards changes no answer.
func TestNothingKept(t *testing.T) {
	for _, size := range []int{0, 1, 2, 3, 40, 1480} {
		for _, c := range []struct {
			proto int
			s     string
		}{{6, segment(40000, 80, 0x1234, some(size))}, {17, datagram(40000, 53, 8+size, 0x1234, some(size))}, {17, datagram(40000, 53, 8, 0x1234, some(size))}, {17, datagram(40000, 53, 7, 0x1234, some(size))}} {
			for _, s := range []string{c.s, with(c.proto, c.s, 0), mustFill(t, c.proto, c.s)} {
				kept := "<<" + s + ">>"
				room := []byte(kept)
				in := unsafe.String(&room[2], len(s))
				wantCheck, _ := checkPlain(c.proto, 1, 2, s)
				want := with(c.proto, s, int(wantCheck))
				check, _ := Check(c.proto, 1, 2, in)
				filled, ok := Fill(c.proto, 1, 2, in)
				Verify(c.proto, 1, 2, in)
				if string(room) != kept {
					t.Errorf("the segment that was handed in is now %s", brief(string(room)))
				}
				clear(room)
				if check != wantCheck || filled != want || !ok {
					t.Errorf("of %d, a body of %d bytes: what was filled became %s, %v; want %s", c.proto, size, brief(filled), ok, brief(want))
				}
			}
		}
	}
}

func mustFill(t *testing.T, proto int, s string) string {
	t.Helper()
	filled, ok := Fill(proto, 1, 2, s)
	if !ok {
		t.Fatalf("Fill(%d, %s) is false", proto, brief(s))
	}
	return filled
}
