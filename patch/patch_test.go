package patch

import (
	"encoding/binary"
	"encoding/hex"
	"fmt"
	"math"
	"math/rand/v2"
	"strings"
	"testing"
	"unsafe"

	"weighbridge/api"
	"weighbridge/packet"
)

// some is a text of that many bytes, which go up and down.
func some(size int) string {
	b := make([]byte, size)
	for i := range b {
		b[i] = byte(i*i*7 + i/3 + 11)
	}
	return string(b)
}

// hexed is what these digits in pairs are.
func hexed(digits string) string {
	b, err := hex.DecodeString(strings.ReplaceAll(digits, " ", ""))
	if err != nil {
		panic(err)
	}
	return string(b)
}

// folded says the Fold of chapter 3 over again, by its remainder: what is carried round is never 0, unless all is.
func folded(n int) int {
	if n == 0 {
		return 0
	}
	return (n-1)%65535 + 1
}

// sumPlain says the Sum of chapter 3 over again.
func sumPlain(s string) int {
	n := 0
	for i := range len(s) {
		n += int(s[i]) << (8 * (1 - i%2))
	}
	return folded(n)
}

// updated says the Update of chapter 3 over again.
func updated(check, old, now int) int {
	return 65535 - folded(65535-check+65535-old+now)
}

// updatedTwice says the Update32 of chapter 3 over again.
func updatedTwice(check int, old, now uint32) int {
	return updated(updated(check, int(old>>16), int(now>>16)), int(old&65535), int(now&65535))
}

// word is the number of two bytes of s from at on.
func word(s string, at int) int {
	return int(s[at])<<8 | int(s[at+1])
}

// long is the number of four bytes of s from at on.
func long(s string, at int) uint32 {
	return uint32(word(s, at))<<16 | uint32(word(s, at+2))
}

// put is s with these bytes from at on.
func put(s string, at int, bytes ...byte) string {
	b := []byte(s)
	copy(b[at:], bytes)
	return string(b)
}

// put16 is s with n in two bytes from at on.
func put16(s string, at, n int) string {
	return put(s, at, byte(n>>8), byte(n))
}

// put32 is s with n in four bytes from at on.
func put32(s string, at int, n uint32) string {
	return put16(put16(s, at, int(n>>16)), at+2, int(n&65535))
}

// head is a header of IPv4, right or wrong: units and total, if they are told, are not the right ones, and the check is the right one with the bits of off turned.
type head struct {
	version, tos, id, flags, frag, ttl, proto int
	src, dst                                  uint32
	opts                                      string
	units, total                              *int
	off                                       uint16
}

// of is a right head of that protocol.
func of(proto int) head {
	return head{version: 4, tos: 16, id: 0x1c46, flags: 2, ttl: 9, proto: proto, src: 0x0a000001, dst: 0xc0a80102}
}

// from is a right head of that protocol and these addresses.
func from(proto int, src, dst uint32) head {
	h := of(proto)
	h.src, h.dst = src, dst
	return h
}

// numberOr is what p points to, if it does.
func numberOr(p *int, n int) int {
	if p == nil {
		return n
	}
	return *p
}

// with is the packet with that body, byte by byte.
func (h head) with(body string) string {
	size := 20 + len(h.opts)
	b := []byte{byte(h.version<<4 | numberOr(h.units, size/4)), byte(h.tos)}
	b = binary.BigEndian.AppendUint16(b, uint16(numberOr(h.total, size+len(body))))
	b = binary.BigEndian.AppendUint16(b, uint16(h.id))
	b = binary.BigEndian.AppendUint16(b, uint16(h.flags<<13|h.frag))
	b = append(b, byte(h.ttl), byte(h.proto), 0, 0)
	b = binary.BigEndian.AppendUint32(b, h.src)
	b = binary.BigEndian.AppendUint32(b, h.dst)
	s := string(b) + h.opts
	return put16(s, 10, 65535-sumPlain(s)^int(h.off)) + body
}

// seg is a segment of TCP, right or wrong, as head is.
type seg struct {
	src, dst, flags int
	opts, body      string
	units           *int
	off             uint16
}

// in is the segment between the addresses of h, byte by byte.
func (g seg) in(h head) string {
	b := binary.BigEndian.AppendUint16(nil, uint16(g.src))
	b = binary.BigEndian.AppendUint16(b, uint16(g.dst))
	b = append(b, 0, 0, 3, 232, 0, 0, 7, 208)
	b = binary.BigEndian.AppendUint16(b, uint16(numberOr(g.units, 5+len(g.opts)/4)<<12|g.flags))
	b = append(b, 250, 240, 0, 0, 0, 5)
	s := string(b) + g.opts + g.body
	return put16(s, 16, checkOf(6, h.src, h.dst, s)^int(g.off))
}

// dat is a datagram of UDP, right or wrong, as head is; behind it stands more, which its length does not count.
type dat struct {
	src, dst   int
	body, more string
	length     *int
	off        uint16
	none       bool // without a check
}

// in is the datagram between the addresses of h, byte by byte.
func (d dat) in(h head) string {
	b := binary.BigEndian.AppendUint16(nil, uint16(d.src))
	b = binary.BigEndian.AppendUint16(b, uint16(d.dst))
	b = binary.BigEndian.AppendUint16(b, uint16(numberOr(d.length, 8+len(d.body))))
	s := string(append(b, 0, 0)) + d.body + d.more
	if d.none {
		return s
	}
	return put16(s, 6, checkOf(17, h.src, h.dst, s)^int(d.off))
}

// checkOf says P8.1 over again: the check of a segment. Of UDP it is about as much as the length says.
func checkOf(proto int, src, dst uint32, s string) int {
	at := 16
	if proto == 17 {
		at = 6
		if length := word(s, 4); 8 <= length && length <= len(s) {
			s = s[:length]
		}
	}
	b := binary.BigEndian.AppendUint32(nil, src)
	b = binary.BigEndian.AppendUint32(b, dst)
	b = append(b, 0, byte(proto), byte(len(s)>>8), byte(len(s)))
	check := 65535 - sumPlain(string(b)+put16(s, at, 0))
	if proto == 17 && check == 0 {
		return 65535
	}
	return check
}

// msg is a message of ICMP, right or wrong, as head is.
type msg struct {
	kind, code int
	rest       uint32
	quote      string
	off        uint16
}

// text is the message byte by byte.
func (m msg) text() string {
	s := put32(string([]byte{byte(m.kind), byte(m.code), 0, 0, 0, 0, 0, 0}), 4, m.rest) + m.quote
	return put16(s, 2, 65535-sumPlain(s)^int(m.off))
}

// told is a packet with a message about that quote.
func told(quote string) string {
	return of(1).with(msg{kind: 3, code: 4, rest: 0x0102_0578, quote: quote}.text())
}

// asked is a right packet of TCP or UDP with this body.
func asked(proto int, body string) string {
	h := from(proto, 0x01020304, 0xf1f2f3f4)
	if proto == 17 {
		return h.with(dat{src: 0x1112, dst: 0xe1e2, body: body}.in(h))
	}
	return h.with(seg{src: 0x1112, dst: 0xe1e2, flags: 18, body: body}.in(h))
}

// behind is where in a packet its body begins.
func behind(s string) int {
	return int(s[0]%16) * 4
}

// moved is s, a packet or a quote, with other addresses and ports; its checks stay.
func moved(s string, to Ends) string {
	s = put32(put32(s, 12, to.Src), 16, to.Dst)
	return put16(put16(s, behind(s), to.SrcPort), behind(s)+2, to.DstPort)
}

// headAnew is s with the check of its header made anew.
func headAnew(s string) string {
	s = put16(s, 10, 0)
	return put16(s, 10, 65535-sumPlain(s[:behind(s)]))
}

// noPort says over again what a port is not.
func noPort(n int) bool {
	return n < 0 || n > 65535
}

// refusal says over again which error there is, for each call with its Kind. What Classify answers is layer 9's to promise.
func refusal(s string, kind int, to Ends) api.Errno {
	p, e := packet.Classify(s)
	switch {
	case e != api.OK:
		return e
	case p.Kind != kind, noPort(to.SrcPort), noPort(to.DstPort):
		return api.ErrArg
	case s[8] < 2:
		return api.ErrTTL
	}
	return api.OK
}

// plainAgain says P10.1 over again, byte by byte.
func plainAgain(s string, to Ends) (string, api.Errno) {
	if e := refusal(s, 1, to); e != api.OK {
		return "", e
	}
	s = s[:word(s, 2)]
	s = headAnew(moved(put(s, 8, s[8]-1), to))
	at, proto := behind(s), int(s[9])
	place := at + 16
	if proto == 17 {
		place = at + 6
		if word(s, place) == 0 {
			return s, api.OK
		}
	}
	return put16(s, place, checkOf(proto, to.Src, to.Dst, s[at:])), api.OK
}

// quoteAgain says over again what becomes of a quote.
func quoteAgain(q string, to Ends) string {
	at, proto := behind(q), q[9]
	gone := func(check int) int {
		check = updatedTwice(check, long(q, 12), to.Src)
		return updatedTwice(check, long(q, 16), to.Dst)
	}
	out := put16(moved(q, to), 10, gone(word(q, 10)))
	goneFar := func(check int) int {
		check = updated(gone(check), word(q, at), to.SrcPort)
		return updated(check, word(q, at+2), to.DstPort)
	}
	if proto == 6 && len(q) >= at+18 {
		out = put16(out, at+16, goneFar(word(q, at+16)))
	}
	if proto == 17 && word(q, at+6) != 0 {
		check := goneFar(word(q, at+6))
		if check == 0 {
			check = 65535
		}
		out = put16(out, at+6, check)
	}
	return out
}

// aboutAgain says P10.2 over again, byte by byte.
func aboutAgain(s string, src, dst uint32, to Ends) (string, api.Errno) {
	if e := refusal(s, 2, to); e != api.OK {
		return "", e
	}
	s = s[:word(s, 2)]
	s = headAnew(put32(put32(put(s, 8, s[8]-1), 12, src), 16, dst))
	at := behind(s)
	s = put16(s[:at+8]+quoteAgain(s[at+8:], to), at+2, 0)
	return put16(s, at+2, 65535-sumPlain(s[at:])), api.OK
}

// brief is s, or how long it is.
func brief(s string) string {
	if len(s) > 100 {
		return fmt.Sprintf("%x.. (%d bytes)", s[:100], len(s))
	}
	return fmt.Sprintf("%x", s)
}

// holdPlain holds Plain against what it must be, twice.
func holdPlain(t *testing.T, s string, to Ends) {
	t.Helper()
	want, wantE := plainAgain(s, to)
	for range 2 {
		if got, e := Plain(s, to); got != want || e != wantE {
			t.Fatalf("Plain(%s, %+v) = %s, %d; want %s, %d", brief(s), to, brief(got), e, brief(want), wantE)
		}
	}
	if wantE == api.OK {
		follows(t, s, want, to.Src, to.Dst, to)
	}
}

// holdAbout holds About against what it must be, twice.
func holdAbout(t *testing.T, s string, src, dst uint32, to Ends) {
	t.Helper()
	want, wantE := aboutAgain(s, src, dst, to)
	for range 2 {
		if got, e := About(s, src, dst, to); got != want || e != wantE {
			t.Fatalf("About(%s, %x, %x, %+v) = %s, %d; want %s, %d", brief(s), src, dst, to, brief(got), e, brief(want), wantE)
		}
	}
	if wantE == api.OK {
		follows(t, s, want, src, dst, to)
	}
}

// follows asks for P10.3 and P10.4: which bytes of s may be others in out, and how out is classified.
func follows(t *testing.T, s, out string, src, dst uint32, to Ends) {
	t.Helper()
	was, _ := packet.Classify(s)
	want := was
	want.TTL, want.Src, want.Dst = was.TTL-1, src, dst
	want.Tuple = api.Tuple{Proto: was.Tuple.Proto, Src: to.Src, Dst: to.Dst, SrcPort: to.SrcPort, DstPort: to.DstPort}
	if got, e := packet.Classify(out); got != want || e != api.OK {
		t.Fatalf("%s became %s: classified as %+v, %d; want %+v", brief(s), brief(out), got, e, want)
	}
	if len(out) != was.Total {
		t.Fatalf("%s became %s: %d bytes; want %d", brief(s), brief(out), len(out), was.Total)
	}
	others := map[int]bool{8: true}
	let := func(at, size int) {
		for i := range size {
			others[at+i] = true
		}
	}
	inner := was.At
	let(10, 10)
	if was.Kind == packet.About {
		inner = was.Inner
		let(was.At+2, 2)
		let(was.Quote+10, 10)
	}
	let(inner, 4)
	let(inner+map[int]int{6: 16, 17: 6}[was.Tuple.Proto], 2)
	for i := range len(out) {
		if out[i] != s[i] && !others[i] {
			t.Fatalf("%s became %s: the byte %d is another one", brief(s), brief(out), i)
		}
	}
}

// both holds both calls against what they must be.
func both(t *testing.T, s string, src, dst uint32, to Ends) {
	t.Helper()
	holdPlain(t, s, to)
	holdAbout(t, s, src, dst, to)
}

// elsewhere is ends that no packet of these tests has.
var elsewhere = Ends{Src: 0x0b0c0d0e, Dst: 0xac101f2e, SrcPort: 1024, DstPort: 8080}

const outerSrc, outerDst = 0xcb007101, 0xc6336455

// refused asks of both calls for no text and these errors.
func refused(t *testing.T, name, s string, to Ends, plain, about api.Errno) {
	t.Helper()
	if got, e := Plain(s, to); got != "" || e != plain {
		t.Errorf("%s: Plain(%s, %+v) = %s, %d; want the error %d", name, brief(s), to, brief(got), e, plain)
	}
	if got, e := About(s, outerSrc, outerDst, to); got != "" || e != about {
		t.Errorf("%s: About(%s, %+v) = %s, %d; want the error %d", name, brief(s), to, brief(got), e, about)
	}
}

// P10.1: the chapter's example, and likewise of About.
func TestNothing(t *testing.T) {
	for _, to := range []Ends{{}, elsewhere, {SrcPort: -1}, {DstPort: 65536}} {
		refused(t, "nothing", "", to, api.ErrShort, api.ErrShort)
	}
	if s, e := About("", 0, 0, Ends{}); s != "" || e != api.ErrShort {
		t.Errorf("About(nothing, no ends) = %x, %d", s, e)
	}
}

// P10.1 and P10.2: packets that were made elsewhere, with either ends.
func TestMadeElsewhere(t *testing.T) {
	const client, vip, own, backend, router = 192<<24 | 2<<8 | 7, 203<<24 | 113<<8 | 1, 10<<24 | 1, 10<<24 | 9, 10<<24 | 9<<16 | 9<<8 | 9
	for _, x := range []struct {
		name, in, out string
		to            Ends
	}{
		{"TCP",
			"45 00 00 2c 1c 46 40 00 40 06 20 7d c0 00 02 07 cb 00 71 01 9c 40 00 50 00 00 03 e8 00 00 00 00 60 02 fa f0 fe b3 00 00 02 04 05 b4",
			"45 00 00 2c 1c 46 40 00 3f 06 0b 7d 0a 00 00 01 0a 00 00 09 04 00 1f 90 00 00 03 e8 00 00 00 00 60 02 fa f0 61 b4 00 00 02 04 05 b4",
			Ends{own, backend, 1024, 8080}},
		{"UDP, with options, and two bytes behind its length",
			"46 00 00 27 1c 46 40 00 02 11 5b 76 c0 00 02 07 cb 00 71 01 01 01 01 00 9c 40 00 35 00 0d 7d 6c 62 6f 64 79 21 99 77",
			"46 00 00 27 1c 46 40 00 01 11 46 76 0a 00 00 01 0a 00 00 09 01 01 01 00 04 01 14 e9 00 0d ea f7 62 6f 64 79 21 99 77",
			Ends{own, backend, 1025, 5353}},
	} {
		if s, e := Plain(hexed(x.in), x.to); s != hexed(x.out) || e != api.OK {
			t.Errorf("%s: Plain = %x, %d; want %s", x.name, s, e, x.out)
		}
		holdPlain(t, hexed(x.in), x.to)
	}
	for _, x := range []struct{ name, in, out string }{
		{"ICMP about TCP, cut",
			"45 c0 00 38 1c 46 00 00 fa 01 86 ac 0a 09 09 09 0a 00 00 01 03 04 d0 0b 00 00 05 78 45 00 00 2c 1c 46 40 00 3d 06 0d 7d 0a 00 00 01 0a 00 00 09 04 00 1f 90 00 00 03 e8",
			"45 c0 00 38 1c 46 00 00 f9 01 a6 b5 cb 00 71 01 c0 00 02 07 03 04 57 0b 00 00 05 78 45 00 00 2c 1c 46 40 00 3d 06 23 7d c0 00 02 07 cb 00 71 01 9c 40 00 50 00 00 03 e8"},
		{"ICMP about TCP, whole",
			"45 c0 00 48 1c 46 00 00 fa 01 86 9c 0a 09 09 09 0a 00 00 01 03 04 0b ac 00 00 05 78 45 00 00 2c 1c 46 40 00 3d 06 0d 7d 0a 00 00 01 0a 00 00 09 04 00 1f 90 00 00 03 e8 00 00 00 00 60 02 fa f0 61 b4 00 00 02 04 05 b4",
			"45 c0 00 48 1c 46 00 00 f9 01 a6 a5 cb 00 71 01 c0 00 02 07 03 04 f5 ab 00 00 05 78 45 00 00 2c 1c 46 40 00 3d 06 23 7d c0 00 02 07 cb 00 71 01 9c 40 00 50 00 00 03 e8 00 00 00 00 60 02 fa f0 fe b3 00 00 02 04 05 b4"},
	} {
		to := Ends{client, vip, 40000, 80}
		if s, e := About(hexed(x.in), vip, client, to); s != hexed(x.out) || e != api.OK {
			t.Errorf("%s: About = %x, %d; want %s", x.name, s, e, x.out)
		}
		holdAbout(t, hexed(x.in), vip, client, to)
		back := Ends{own, backend, 1024, 8080}
		again := "45 c0" + x.in[5:24] + "f8" + x.in[26:]
		if s, e := About(hexed(x.out), router, own, back); s != headAnew(hexed(again)) || e != api.OK {
			t.Errorf("%s, and back: About = %x, %d; want %x", x.name, s, e, headAnew(hexed(again)))
		}
	}
}

// flaw is one thing that is wrong with a frame, and the error of it.
type flaw struct {
	name, frame string
	e           api.Errno
}

// flaws are frames with each error of Classify; each has a TTL of that many.
func flaws(ttl int) []flaw {
	bare := func(proto int, do func(h *head)) head {
		h := of(proto)
		h.ttl = ttl
		do(&h)
		return h
	}
	same := func(*head) {}
	tcp, udp, icmp := bare(6, same), bare(17, same), bare(1, same)
	segment, datagram := seg{src: 1, dst: 2, body: "body"}.in(tcp), dat{src: 1, dst: 2, body: "body"}.in(udp)
	about := func(proto int, do func(h *head)) string {
		h := of(proto)
		do(&h)
		return icmp.with(msg{kind: 3, quote: h.with("\x00\x01\x00\x02ports")}.text())
	}
	list := []flaw{
		{"a part of a header", tcp.with(segment)[:19], api.ErrShort},
		{"the last byte is not there", tcp.with(segment)[:43], api.ErrLength},
		{"short segment", tcp.with(segment[:19]), api.ErrShort},
		{"segment's header", tcp.with(seg{units: new(15)}.in(tcp)), api.ErrHeader},
		{"segment's option", tcp.with(seg{opts: "\x02\x01\x01\x01"}.in(tcp)), api.ErrOption},
		{"segment's sum", tcp.with(seg{off: 1}.in(tcp)), api.ErrSum},
		{"short datagram", udp.with(datagram[:7]), api.ErrShort},
		{"datagram's length", udp.with(dat{length: new(7)}.in(udp)), api.ErrLength},
		{"datagram's sum", udp.with(dat{off: 256, body: "x"}.in(udp)), api.ErrSum},
		{"short message", icmp.with("\x03\x00\xfc\xff"), api.ErrShort},
		{"message's sum", icmp.with(msg{kind: 3, quote: asked(6, ""), off: 1}.text()), api.ErrSum},
		{"type", icmp.with(msg{kind: 8, quote: asked(6, "")}.text()), api.ErrType},
		{"short quote", icmp.with(msg{kind: 3, quote: asked(6, "")[:19]}.text()), api.ErrShort},
		{"quote's version", about(6, func(h *head) { h.version = 6 }), api.ErrVersion},
		{"quote's header", about(6, func(h *head) { h.units = new(15) }), api.ErrHeader},
		{"quote's fragment", about(17, func(h *head) { h.frag = 1 }), api.ErrFragment},
		{"quote's protocol", about(1, same), api.ErrProto},
		{"quote cut behind its header", icmp.with(msg{kind: 3, quote: asked(6, "")[:27]}.text()), api.ErrShort},
	}
	for _, x := range []struct {
		name string
		e    api.Errno
		do   func(h *head)
	}{
		{"version", api.ErrVersion, func(h *head) { h.version = 5 }},
		{"header", api.ErrHeader, func(h *head) { h.units = new(4) }},
		{"length", api.ErrLength, func(h *head) { h.total = new(19) }},
		{"sum", api.ErrSum, func(h *head) { h.off = 1 }},
		{"option", api.ErrOption, func(h *head) { h.opts = "\x02\x01\x01\x01" }},
		{"fragment", api.ErrFragment, func(h *head) { h.frag = 7 }},
		{"more fragments", api.ErrFragment, func(h *head) { h.flags = 1 }},
		{"protocol", api.ErrProto, func(h *head) { h.proto = 50 }},
	} {
		list = append(list,
			flaw{x.name + " of TCP", bare(6, x.do).with(segment), x.e},
			flaw{x.name + " of UDP", bare(17, x.do).with(datagram), x.e},
			flaw{x.name + " of ICMP", bare(1, x.do).with(msg{kind: 3, quote: asked(6, "")}.text()), x.e})
	}
	return append(list,
		flaw{"long TCP", tcp.with(seg{body: some(1461)}.in(tcp)), api.ErrLong},
		flaw{"long UDP", udp.with(dat{body: some(1473)}.in(udp)), api.ErrLong},
		flaw{"long ICMP", icmp.with(msg{kind: 3, quote: asked(6, some(1433))}.text()), api.ErrLong})
}

// P10.1 and P10.2: each error of Classify, ahead of a port that is none, and of a TTL that is below 2.
func TestErrorsOfClassify(t *testing.T) {
	seen := map[api.Errno]bool{}
	for _, ttl := range []int{0, 1, 2, 255} {
		for _, x := range flaws(ttl) {
			for _, to := range []Ends{elsewhere, {SrcPort: -1}, {DstPort: 65536}, {SrcPort: 65536, DstPort: -1}} {
				refused(t, x.name, x.frame, to, x.e, x.e)
			}
			seen[x.e] = true
		}
	}
	for _, e := range []api.Errno{api.ErrShort, api.ErrVersion, api.ErrHeader, api.ErrLength, api.ErrLong, api.ErrSum, api.ErrOption, api.ErrFragment, api.ErrProto, api.ErrType} {
		if !seen[e] {
			t.Errorf("no frame has the error %d", e)
		}
	}
}

// frames are a right packet of each kind, with this life and these options: two that are Plain, then two that are About.
func frames(ttl int, opts, body string) []string {
	var out []string
	for _, proto := range []int{6, 17} {
		h := of(proto)
		h.ttl, h.opts = ttl, opts
		if proto == 6 {
			out = append(out, h.with(seg{src: 40000, dst: 80, flags: 2, body: body}.in(h)))
		} else {
			out = append(out, h.with(dat{src: 40000, dst: 53, body: body}.in(h)))
		}
	}
	h := of(1)
	h.ttl, h.opts = ttl, opts
	for i, proto := range []int{6, 17} {
		out = append(out, h.with(msg{kind: 11 + i, quote: asked(proto, body)}.text()))
	}
	return out
}

// P10.1 and P10.2: Plain of what is About, and About of what is Plain; of two and three errors the first one.
func TestOtherKind(t *testing.T) {
	for _, ttl := range []int{0, 1, 2, 9, 255} {
		for i, s := range frames(ttl, "", "body") {
			for _, to := range []Ends{elsewhere, {}, {SrcPort: -1}, {DstPort: 65536}} {
				own := api.OK
				switch {
				case to.SrcPort < 0 || to.DstPort > 65535:
					own = api.ErrArg
				case ttl < 2:
					own = api.ErrTTL
				}
				calls := []func() (string, api.Errno){
					func() (string, api.Errno) { return Plain(s, to) },
					func() (string, api.Errno) { return About(s, outerSrc, outerDst, to) },
				}
				if got, e := calls[i/2](); e != own || (got == "") != (own != api.OK) {
					t.Errorf("its own call of %s with a TTL of %d, %+v: %s, %d; want the error %d", brief(s), ttl, to, brief(got), e, own)
				}
				if got, e := calls[1-i/2](); e != api.ErrArg || got != "" {
					t.Errorf("the other call of %s with a TTL of %d, %+v: %s, %d; want ErrArg", brief(s), ttl, to, brief(got), e)
				}
				both(t, s, outerSrc, outerDst, to)
			}
		}
	}
}

var oddPorts = []int{math.MinInt, math.MinInt + 80, -1 << 33, -1 << 32, -65537, -65536, -65535, -256, -80, -2, -1, 0, 1, 2, 255, 256, 32767, 32768, 65534, 65535, 65536, 65537, 65536 + 80, 1<<17 - 1, 1 << 24, 1<<31 - 1, 1 << 31, 1<<32 - 1, 1 << 32, 1<<32 + 80, 1<<48 + 80, math.MaxInt - 1, math.MaxInt}

// P10.1 and P10.2: each port of to at its edges and far off, with a TTL that is right and with one that is not.
func TestPorts(t *testing.T) {
	for _, ttl := range []int{9, 1} {
		for i, s := range frames(ttl, "", "body") {
			for _, sp := range oddPorts {
				for _, dp := range oddPorts {
					to := Ends{Src: 7, Dst: 8, SrcPort: sp, DstPort: dp}
					both(t, s, outerSrc, outerDst, to)
					if sp < 0 || sp > 65535 || dp < 0 || dp > 65535 {
						refused(t, "a port that is none", s, to, api.ErrArg, api.ErrArg)
					} else if ttl < 2 {
						refused(t, "no life", s, to, []api.Errno{api.ErrTTL, api.ErrArg}[i/2], []api.Errno{api.ErrArg, api.ErrTTL}[i/2])
					}
				}
			}
			for n := -70000; n <= 140000; n += 997 {
				both(t, s, outerSrc, outerDst, Ends{SrcPort: n})
				both(t, s, outerSrc, outerDst, Ends{DstPort: n})
			}
		}
	}
}

// P10.1 and P10.2: each TTL: below 2 there is an error, else it is one less; the quote's own stays.
func TestTTL(t *testing.T) {
	for ttl := range 256 {
		for i, s := range frames(ttl, "", "body") {
			out, e := Plain(s, elsewhere)
			if i > 1 {
				out, e = About(s, outerSrc, outerDst, elsewhere)
			}
			switch {
			case ttl < 2 && (e != api.ErrTTL || out != ""):
				t.Errorf("a TTL of %d: %s, %d; want ErrTTL", ttl, brief(out), e)
			case ttl >= 2 && (e != api.OK || int(out[8]) != ttl-1):
				t.Errorf("a TTL of %d: %s, %d; want %d", ttl, brief(out), e, ttl-1)
			}
			both(t, s, outerSrc, outerDst, elsewhere)
		}
		h := of(6)
		h.ttl = ttl
		s := told(h.with(seg{src: 1, dst: 2}.in(h)))
		if out, e := About(s, outerSrc, outerDst, elsewhere); e != api.OK || int(out[8]) != 8 || int(out[36]) != ttl {
			t.Errorf("a quote with a TTL of %d: %s, %d", ttl, brief(out), e)
		}
	}
}

// P10.1: with other ends a packet is as one that was made with these ends: TCP and UDP, with options and without, bodies of all lengths, and what stands behind.
func TestShapes(t *testing.T) {
	opts := []string{"", "\x01\x01\x01\x00", "\x44\x08\x05\x01\x01\x02\x03\x04", strings.Repeat("\x07\x04\xff\xfe", 10)}
	for _, ipOpts := range opts {
		for _, segOpts := range opts {
			for _, size := range []int{0, 1, 2, 3, 4, 5, 7, 8, 100, 255, 256, 1000, 1379, 1380} {
				for _, proto := range []int{6, 17} {
					build := func(h head, sp, dp int) string {
						h.opts = ipOpts
						if proto == 17 {
							return h.with(dat{src: sp, dst: dp, body: segOpts + some(size)}.in(h))
						}
						return h.with(seg{src: sp, dst: dp, flags: 0xa52, opts: segOpts, body: some(size)}.in(h))
					}
					after := from(proto, elsewhere.Src, elsewhere.Dst)
					after.ttl = 8
					in, want := build(of(proto), 40000, 80), build(after, elsewhere.SrcPort, elsewhere.DstPort)
					for _, more := range []string{"", "\x00", "pad", some(1500)} {
						if got, e := Plain(in+more, elsewhere); got != want || e != api.OK {
							t.Fatalf("Plain(%s) = %s, %d; want %s", brief(in), brief(got), e, brief(want))
						}
						both(t, in+more, outerSrc, outerDst, elsewhere)
					}
				}
			}
		}
	}
	h := of(6)
	holdPlain(t, h.with(seg{src: 1, dst: 2, body: some(1460)}.in(h)), elsewhere)
	holdPlain(t, h.with(seg{src: 1, dst: 2, body: some(1459)}.in(h)), elsewhere)
	holdAbout(t, told(asked(6, some(1432))), 1, 2, elsewhere)
	holdAbout(t, told(asked(17, some(1443))), 1, 2, elsewhere)
}

// P10.1: of UDP the check is about as much as the length says; what stands behind that, up to the total, stays.
func TestMoreThanLength(t *testing.T) {
	for _, body := range []string{"", "x", "body", "a body"} {
		for _, more := range []string{"", "\x00", "m", "more", "\xff\xff\xff"} {
			h, after := of(17), from(17, elsewhere.Src, elsewhere.Dst)
			after.ttl = 8
			in := h.with(dat{src: 1, dst: 2, body: body, more: more}.in(h))
			want := after.with(dat{src: elsewhere.SrcPort, dst: elsewhere.DstPort, body: body, more: more}.in(after))
			if got, e := Plain(in+"behind", elsewhere); got != want || e != api.OK || !strings.HasSuffix(got, body+more) {
				t.Errorf("Plain(%s) = %s, %d; want %s", brief(in), brief(got), e, brief(want))
			}
			both(t, in+"behind", outerSrc, outerDst, elsewhere)
		}
	}
}

// P10.1: of UDP a check that is 0 stays 0, and one that would become 0 is 65535; of TCP 0 is a check like others.
func TestChecksOfSegments(t *testing.T) {
	for _, body := range []string{"", "x", "body", some(301)} {
		h := of(17)
		in := h.with(dat{src: 1, dst: 2, body: body, none: true}.in(h))
		for _, to := range []Ends{elsewhere, {}, {h.src, h.dst, 1, 2}, {1<<32 - 1, 1<<32 - 1, 65535, 65535}} {
			if out, e := Plain(in, to); e != api.OK || word(out, 26) != 0 {
				t.Errorf("a datagram without a check: %s, %d", brief(out), e)
			}
			both(t, in, outerSrc, outerDst, to)
		}
		for _, c := range []struct {
			proto, place, least int // least is what stands there where the sum is the greatest
		}{{6, 36, 0}, {17, 26, 65535}} {
			h := of(c.proto)
			in := h.with(seg{src: 1, dst: 2, body: body}.in(h))
			if c.proto == 17 {
				in = h.with(dat{src: 1, dst: 2, body: body}.in(h))
			}
			to := elsewhere
			to.DstPort = 0
			out, _ := Plain(in, to)
			lack := word(out, c.place) // so much less than the greatest the sum is without a port
			for port, want := range map[int]int{lack: c.least, lack - 1: 1, lack - 2: 2, (lack+1)%65536 + (lack+1)/65536: 65534} {
				to.DstPort = port
				out, e := Plain(in, to)
				if e != api.OK || word(out, c.place) != want {
					t.Errorf("of %d, to the port %d: %s, %d; want the check %04x", c.proto, port, brief(out), e, want)
				}
				holdPlain(t, in, to)
				back := Ends{h.src, h.dst, 1, 2}
				again, e := Plain(out, back)
				if e != api.OK || again[20:] != in[20:] {
					t.Errorf("of %d, from the port %d back: %s, %d; want %s", c.proto, port, brief(again), e, brief(in))
				}
				holdPlain(t, out, back)
			}
		}
	}
}

// P10.1 and P10.2: of TCP a 0 where UDP has its check says nothing.
func TestZeroWhereUDPHasIts(t *testing.T) {
	for _, body := range []string{"", "x", "body"} {
		h := of(6)
		in := sealed(put16(h.with(seg{src: 1, dst: 2, body: body}.in(h)), 26, 0))
		to := elsewhere
		out, e := Plain(in, to)
		if e != api.OK || word(out, 36) == word(in, 36) || word(out, 36) != checkOf(6, to.Src, to.Dst, out[20:]) {
			t.Errorf("Plain(%s) = %s, %d", brief(in), brief(out), e)
		}
		holdPlain(t, in, to)
		about, e := About(told(in), 1, 2, to)
		if e != api.OK || word(about, 64) != word(out, 36) {
			t.Errorf("About(%s) = %s, %d; want the quote's check %04x", brief(told(in)), brief(about), e, word(out, 36))
		}
		holdAbout(t, told(in), 1, 2, to)
	}
}

// P10.1 and P10.2: the outer header's check anew, also where it comes to 0, and to the greatest that it comes to.
func TestHeaderChecks(t *testing.T) {
	for _, opts := range []string{"", "\x01\x01\x01\x01", "\xff\x04\xff\xff"} {
		for i, s := range frames(64, opts, "body") {
			call := func(dst uint32) (string, api.Errno) {
				if i < 2 {
					return Plain(s, Ends{Src: 0x0a0b0c0d, Dst: dst})
				}
				return About(s, 0x0a0b0c0d, dst, elsewhere)
			}
			out, e := call(0x7f00_0000)
			if e != api.OK {
				t.Fatalf("%s: %d", brief(s), e)
			}
			lack := uint32(word(out, 10))
			for dst, want := range map[uint32]int{lack: 0, lack - 1: 1, lack + 1: 65534, lack + 2: 65533} {
				out, e := call(0x7f00_0000 + dst)
				if e != api.OK || word(out, 10) != want || word(out, 10) != 65535-sumPlain(put16(out, 10, 0)[:behind(out)]) {
					t.Errorf("%s: %s, %d; want the check %04x", brief(s), brief(out), e, want)
				}
				both(t, s, 0x0a0b0c0d, 0x7f00_0000+dst, Ends{Src: 0x0a0b0c0d, Dst: 0x7f00_0000 + dst})
			}
		}
	}
}

// otherZero is s with 65535 for its header's check 0, which is as right.
func otherZero(s string) string {
	if word(s, 10) != 0 {
		panic("the check is not 0")
	}
	return put16(s, 10, 65535)
}

// P10.1 and P10.2: a header's check is made anew, not gone on with: where 65535 was let pass for 0, and nothing else is another, it is what the sum asks.
func TestAnew(t *testing.T) {
	for i, s := range frames(64, "", "body") {
		to := Ends{of(6).src, of(6).dst, 40000, 80}
		zero := headAnew(put16(s, 4, 0))
		zero = otherZero(headAnew(put16(zero, 4, word(zero, 10))))
		if p, e := packet.Classify(zero); e != api.OK || p.Total != len(s) {
			t.Fatalf("%s: %+v, %d", brief(zero), p, e)
		}
		out, e := Plain(zero, to)
		if i > 1 {
			out, e = About(zero, to.Src, to.Dst, elsewhere)
		}
		if e != api.OK || word(out, 10) != 256 { // the TTL is one less
			t.Errorf("%s: %s, %d; want the check 0100", brief(zero), brief(out), e)
		}
		both(t, zero, to.Src, to.Dst, to)
	}
}

// P10.1: a segment's check is made anew, too: where 65535 was let pass for 0, it is what the sum asks, also from all ones to nothing.
func TestSegmentAnew(t *testing.T) {
	const top = 1<<32 - 1
	h := from(6, top, top)
	in := h.with(seg{src: 65535, dst: 65535}.in(h))
	in = sealed(put16(in, 38, (word(in, 36)+word(in, 38))%65535))
	if word(in, 36) != 0 {
		t.Fatalf("the check of %s is %04x", brief(in), word(in, 36))
	}
	other := put16(in, 36, 65535)
	if p, e := packet.Classify(other); e != api.OK || p.Total != 40 {
		t.Fatalf("%s: %+v, %d", brief(other), p, e)
	}
	for _, to := range []Ends{{top, top, 65535, 65535}, {}, {0, 0, 65535, 65535}, {top, top, 0, 0}} {
		for _, s := range []string{in, other} {
			if out, e := Plain(s, to); e != api.OK || word(out, 36) != 0 {
				t.Errorf("Plain(%s, %+v) = %s, %d; want the check 0", brief(s), to, brief(out), e)
			}
			holdPlain(t, s, to)
		}
	}
}

var oddAddresses = []uint32{0, 1, 255, 256, 65535, 65536, 0x01020304, 0x0a000001, 0xffff0000, 0x7fffffff, 0x80000000, 0xfffffffe, 0xffffffff}

// P10.1 and P10.2: ends that are the same as before, and such as change one number alone, up and down, and to its edges.
func TestOneNumber(t *testing.T) {
	for _, s := range append(frames(64, "", "body"), told(asked(6, "")[:28]), told(asked(17, "odd")[:30])) {
		p, _ := packet.Classify(s)
		same := Ends{p.Tuple.Src, p.Tuple.Dst, p.Tuple.SrcPort, p.Tuple.DstPort}
		try := func(do func(e *Ends)) {
			t.Helper()
			to := same
			do(&to)
			both(t, s, p.Src, p.Dst, to)
		}
		try(func(*Ends) {})
		out, e := Plain(s, same)
		if p.Kind == packet.About {
			out, e = About(s, p.Src, p.Dst, same)
		}
		if want := headAnew(put(s, 8, 63)); p.TTL == 64 && (out != want || e != api.OK) {
			t.Errorf("%s with the same ends: %s, %d; want %s", brief(s), brief(out), e, brief(want))
		}
		for _, n := range append(oddAddresses, p.Tuple.Src+1, p.Tuple.Src-1, p.Tuple.Dst+1, p.Tuple.Dst-1, p.Tuple.Src^0xffff0000, p.Tuple.Dst^0xffff) {
			try(func(e *Ends) { e.Src = n })
			try(func(e *Ends) { e.Dst = n })
			both(t, s, n, p.Dst, same)
			both(t, s, p.Src, n, same)
		}
		for _, n := range []int{0, 1, 255, 256, 65534, 65535, same.SrcPort + 1, same.SrcPort - 1, same.DstPort + 1, same.DstPort - 1} {
			try(func(e *Ends) { e.SrcPort = n })
			try(func(e *Ends) { e.DstPort = n })
		}
		try(func(e *Ends) { *e = Ends{same.Dst, same.Src, same.DstPort, same.SrcPort} })
	}
}

// P10.1 and P10.2: each number of the ends goes to its own place, from and to its edges.
func TestEdgesOfEnds(t *testing.T) {
	ports := []int{0, 1, 256, 65535}
	for i, src := range oddAddresses {
		for j, dst := range oddAddresses {
			for _, sp := range ports {
				for _, dp := range ports {
					proto := []int{6, 17}[(i+j)%2]
					h := from(proto, dst, src)
					g := seg{src: dp, dst: sp}.in(h)
					if proto == 17 {
						g = dat{src: dp, dst: sp}.in(h)
					}
					to := Ends{src, dst, sp, dp}
					out, e := Plain(h.with(g), to)
					if e != api.OK || long(out, 12) != src || long(out, 16) != dst || word(out, 20) != sp || word(out, 22) != dp {
						t.Fatalf("Plain(%s, %+v) = %s, %d", brief(h.with(g)), to, brief(out), e)
					}
					holdPlain(t, h.with(g), to)
					s := told(h.with(g))
					out, e = About(s, ^src, ^dst, to)
					if e != api.OK || long(out, 12) != ^src || long(out, 16) != ^dst || long(out, 40) != src || long(out, 44) != dst || word(out, 48) != sp || word(out, 50) != dp {
						t.Fatalf("About(%s, %+v) = %s, %d", brief(s), to, brief(out), e)
					}
					holdAbout(t, s, ^src, ^dst, to)
				}
			}
		}
	}
}

// P10.2: a right quote of any length becomes what a packet with these ends would be quoted as: cut ahead of its check, within and behind it, whole, and with options.
func TestQuotes(t *testing.T) {
	for _, opts := range []string{"", "\x01\x01\x01\x00", "\x44\x08\x05\x01\x01\x02\x03\x04", strings.Repeat("\x07\x04\xff\xfe", 10)} {
		for _, proto := range []int{6, 17} {
			build := func(h head, sp, dp int) string {
				h.opts, h.tos, h.flags = opts, 255, 7 // it may be the first of many parts
				if proto == 17 {
					return h.with(dat{src: sp, dst: dp, body: "what was asked"}.in(h))
				}
				return h.with(seg{src: sp, dst: dp, flags: 0xa52, body: "what was asked"}.in(h))
			}
			was := build(from(proto, 0x01020304, 0xf1f2f3f4), 0x1112, 0xe1e2)
			now := build(from(proto, elsewhere.Src, elsewhere.Dst), elsewhere.SrcPort, elsewhere.DstPort)
			for size := 28 + len(opts); size <= len(was); size++ {
				want := now[:size]
				if at := 20 + len(opts) + 16; proto == 6 && size == at+1 { // half a check stays
					want = now[:at] + was[at:at+1]
				}
				for _, outOpts := range []string{"", opts} {
					h, after := of(1), from(1, outerSrc, outerDst)
					h.opts, after.opts, after.ttl = outOpts, outOpts, 8
					in := h.with(msg{kind: 12, code: 1, rest: 0x89abcdef, quote: was[:size]}.text())
					out := after.with(msg{kind: 12, code: 1, rest: 0x89abcdef, quote: want}.text())
					for _, more := range []string{"", was[size:], "behind"} {
						if got, e := About(in+more, outerSrc, outerDst, elsewhere); got != out || e != api.OK {
							t.Fatalf("a quote of %d bytes: About(%s) = %s, %d; want %s", size, brief(in+more), brief(got), e, brief(out))
						}
						both(t, in+more, outerSrc, outerDst, elsewhere)
					}
				}
			}
		}
	}
}

// P10.2: a TCP check in a quote is gone on with from its second byte on, and not ahead of it.
func TestCutChecks(t *testing.T) {
	quote := asked(6, "body")
	full, _ := About(told(quote), 1, 2, elsewhere)
	for size := 28; size <= len(quote); size++ {
		out, e := About(told(quote[:size]), 1, 2, elsewhere)
		if e != api.OK || len(out) != 28+size {
			t.Fatalf("cut to %d bytes: %s, %d", size, brief(out), e)
		}
		if size < 38 && out[28+24:] != quote[24:size] {
			t.Errorf("cut to %d bytes: behind its ports the quote is %x; want %x", size, out[28+24:], quote[24:size])
		}
		if size >= 38 && out[28+24:] != full[28+24:28+size] {
			t.Errorf("cut to %d bytes: behind its ports the quote is %x; want %x", size, out[28+24:], full[28+24:28+size])
		}
	}
	if full[64:66] == quote[36:38] {
		t.Error("the check is the same as before")
	}
}

// checksWanted asks which checks the quote, whose header has no options, comes to have.
func checksWanted(t *testing.T, quote string, to Ends, header, segment int) {
	t.Helper()
	s := told(quote)
	place := map[byte]int{6: 64, 17: 54}[quote[9]]
	out, e := About(s, 3, 4, to)
	if e != api.OK || word(out, 38) != header || word(out, place) != segment {
		t.Errorf("About(%s, %+v) = %s, %d; want the checks %04x and %04x", brief(s), to, brief(out), e, header, segment)
	}
	holdAbout(t, s, 3, 4, to)
}

// P10.2: what the checks of a quote come to: 0, 65535, and a UDP one that would be 0.
func TestZerosOfQuotes(t *testing.T) {
	const top = 1<<32 - 1
	bare := func(proto, header, segment int, was Ends) string {
		q := moved(asked(proto, "body"), was)
		return put16(put16(q, 10, header), map[int]int{6: 36, 17: 26}[proto], segment)
	}
	one := Ends{1, 2, 3, 4}
	for _, proto := range []int{6, 17} {
		none := map[int]int{6: 0, 17: 65535}[proto]
		checksWanted(t, bare(proto, 0x1234, 0x5678, one), one, 0x1234, 0x5678)
		checksWanted(t, bare(proto, 0x1234, 0x5678, one), Ends{2, 2, 4, 4}, 0x1233, 0x5676)
		checksWanted(t, bare(proto, 0x1234, 0x5678, one), Ends{0, 0, 0, 0}, 0x1237, 0x5682)
		checksWanted(t, bare(proto, 0x1234, 0x5678, one), Ends{65536, 65536, 3, 4}, 0x1235, 0x5679)
		checksWanted(t, bare(proto, 65535, 65535, one), one, 0, none)
		checksWanted(t, bare(proto, 1, 3, one), Ends{2, 2, 4, 5}, 0, none)
		checksWanted(t, bare(proto, 1, 1, one), Ends{2, 2, 3, 4}, 0, none)
		checksWanted(t, bare(proto, 1, 1, one), Ends{1, 2, 4, 4}, 1, none)
		checksWanted(t, bare(proto, 1, 1, one), Ends{1, 2, 3, 5}, 1, none)
		checksWanted(t, bare(proto, 1, 1, one), Ends{3, 2, 3, 4}, 65534, 65534)
		checksWanted(t, bare(proto, 65535, 65535, Ends{top, top, 65535, 65535}), Ends{}, 65535, 65535)
		checksWanted(t, bare(proto, 65535, 65535, Ends{top, top, 65535, 65535}), Ends{0, 0, 65535, 0}, 65535, none)
		checksWanted(t, bare(proto, 65535, 65535, Ends{top, top, 65535, 65535}), Ends{0, 0, 0, 65535}, 65535, none)
		checksWanted(t, bare(proto, 65535, 65535, Ends{top, top, 65535, 65535}), Ends{top, 0, 0, 0}, 0, none)
		checksWanted(t, bare(proto, 65535, 65535, Ends{top, top, 65535, 65535}), Ends{0, 0xffff, 0, 0}, 0, none)
	}
	checksWanted(t, bare(17, 0, 0, one), one, 0, 0)
	checksWanted(t, bare(17, 0, 0, one), Ends{2, 2, 4, 5}, 65534, 0)
	checksWanted(t, bare(6, 0, 0, one), one, 0, 0)
	checksWanted(t, bare(6, 0, 0, one), Ends{2, 2, 4, 5}, 65534, 65532)
}

// P10.2: the checks of a quote are gone on with whatever they are: each of them as wrong as it was.
func TestWrongChecks(t *testing.T) {
	edges := []int{0, 1, 2, 255, 256, 32768, 65533, 65534, 65535}
	for n := 9; n < 65536; n += 1021 {
		edges = append(edges, n)
	}
	for _, proto := range []int{6, 17} {
		quote := asked(proto, "body")
		place := map[int]int{6: 36, 17: 26}[proto]
		for _, header := range edges {
			for _, segment := range edges {
				q := put16(put16(quote, 10, header), place, segment)
				s := told(q)
				out, e := About(s, 3, 4, elsewhere)
				if e != api.OK {
					t.Fatalf("About(%s) = %d", brief(s), e)
				}
				now := out[28:]
				if (sumPlain(now[:20])-sumPlain(q[:20]))%65535 != 0 {
					t.Fatalf("the header's check of %s was %04x, and is %04x", brief(q), header, word(now, 10))
				}
				wrong := func(q string) int {
					return sumPlain(q[12:20]) + sumPlain(q[20:])
				}
				if none := proto == 17 && segment == 0; !none && (wrong(now)-wrong(q))%65535 != 0 || none && word(now, place) != 0 {
					t.Fatalf("the segment's check of %s was %04x, and is %04x", brief(q), segment, word(now, place))
				}
				holdAbout(t, s, 3, 4, elsewhere)
			}
		}
	}
}

// P10.2: what a quote's checks are gone on with, from all edges to all edges, of right checks and of others.
func TestGoneOn(t *testing.T) {
	addresses := []uint32{0, 1, 0xffff, 0xffff0000, 0x0a000001, 0xffffffff}
	ports := []int{0, 1, 0x1f90, 65535}
	for _, proto := range []int{6, 17} {
		for i, oldSrc := range addresses {
			for j, oldDst := range addresses {
				for k, old := range ports {
					h := from(proto, oldSrc, oldDst)
					whole := h.with(seg{src: old, dst: ports[(i+j+k)%4], body: "body"}.in(h))
					if proto == 17 {
						whole = h.with(dat{src: old, dst: ports[(i+j+k)%4], body: "body"}.in(h))
					}
					for m, src := range addresses {
						for n, dst := range addresses {
							to := Ends{src, dst, ports[(i+m+n)%4], ports[(j+m)%4]}
							for _, check := range []int{-1, 0, 1, 65534, 65535} {
								q := whole
								if check >= 0 {
									q = put16(put16(whole, 10, check), map[int]int{6: 36, 17: 26}[proto], check)
								}
								holdAbout(t, told(q), dst, src, to)
							}
						}
					}
				}
			}
		}
	}
}

// P10.2: the check of the message anew, also where it comes to 0, and to the greatest that it comes to.
func TestMessageChecks(t *testing.T) {
	for _, proto := range []int{6, 17} {
		for _, body := range []string{"", "x", "body"} {
			build := func(rest uint32) string {
				return of(1).with(msg{kind: 3, code: 4, rest: rest, quote: asked(proto, body)}.text())
			}
			out, e := About(build(0), 1, 2, elsewhere)
			if e != api.OK {
				t.Fatal(e)
			}
			lack := uint32(word(out, 22))
			for rest, want := range map[uint32]int{lack: 0, lack - 1: 1, lack + 1: 65534, lack << 16: 0} {
				s := build(rest)
				out, e := About(s, 1, 2, elsewhere)
				if e != api.OK || word(out, 22) != want || word(out, 22) != 65535-sumPlain(put16(out, 22, 0)[20:]) {
					t.Errorf("About(%s) = %s, %d; want the check %04x", brief(s), brief(out), e, want)
				}
				holdAbout(t, s, 1, 2, elsewhere)
			}
			out, _ = About(build(7), 1, 2, elsewhere)
			if !strings.HasPrefix(out[20:], "\x03\x04") || out[24:28] != "\x00\x00\x00\x07" {
				t.Errorf("the message is now %s", brief(out[20:]))
			}
		}
	}
}

// P10.2: a message's check that let 65535 pass for 0 is made anew like any other.
func TestMessageAnew(t *testing.T) {
	quote := asked(6, "body")
	to := Ends{long(quote, 12), long(quote, 16), word(quote, 20), word(quote, 22)}
	m := msg{kind: 3, code: 4, quote: quote}
	m.rest = uint32(word(m.text(), 2))
	text := m.text()
	if word(text, 2) != 0 {
		t.Fatalf("the check is %04x", word(text, 2))
	}
	s := of(1).with(put16(text, 2, 65535))
	if out, e := About(s, 1, 2, to); e != api.OK || word(out, 22) != 0 || out[24:] != s[24:] {
		t.Errorf("About(%s) = %s, %d; want the check 0", brief(s), brief(out), e)
	}
	holdAbout(t, s, 1, 2, to)
}

// sealed is s with all its checks made anew, but those of its quote.
func sealed(s string) string {
	at := behind(s)
	switch body := s[at:]; s[9] {
	case 6:
		s = put16(s, at+16, checkOf(6, long(s, 12), long(s, 16), body))
	case 17:
		s = put16(s, at+6, checkOf(17, long(s, 12), long(s, 16), body))
	case 1:
		s = put16(s, at+2, 65535-sumPlain(put16(body, 2, 0)))
	}
	return headAnew(s)
}

// P10.3: each byte as each other one: what is not named stays, and what can't be read is refused.
func TestOtherBytes(t *testing.T) {
	shapes := frames(9, "", "body!")
	shapes = append(shapes, frames(9, "\x44\x08\x01\x02\x01\x01\x01\x00", "")...)
	shapes = append(shapes, told(asked(17, "")[:28]), told(asked(6, "odd")[:37]), told(asked(6, "")[:38]))
	done := 0
	for _, s := range shapes {
		for at := range s {
			for n := range 256 {
				b := put(s, at, byte(n))
				both(t, b, outerSrc, outerDst, elsewhere)
				if at == 0 || at == 2 || at == 3 || at == 9 { // of other lengths, or of another protocol
					continue
				}
				both(t, sealed(b), outerSrc, outerDst, elsewhere)
				if _, e := packet.Classify(sealed(b)); e == api.OK {
					done++
				}
			}
		}
		for cut := range len(s) + 1 {
			both(t, s[:cut], outerSrc, outerDst, elsewhere)
			both(t, s[cut:], outerSrc, outerDst, elsewhere)
		}
	}
	if done < 100000 {
		t.Errorf("but %d packets could be classified", done)
	}
}

// P10.4: what came out is handed in again, until its life is over, and classified as it was each time.
func TestOnAndOn(t *testing.T) {
	for i, s := range frames(255, "\x01\x01\x01\x00", "a body") {
		for round := range 254 {
			to := Ends{uint32(round) * 0x01030507, uint32(round) * 0x10f0e0d1, round * 257, 65535 - round*199}
			both(t, s, to.Dst, to.Src^1, to)
			e := api.OK
			if i < 2 {
				s, e = Plain(s, to)
			} else {
				s, e = About(s, to.Dst, to.Src^1, to)
			}
			if e != api.OK || int(s[8]) != 254-round {
				t.Fatalf("round %d: %s, %d", round, brief(s), e)
			}
		}
		refused(t, "at the end", s, elsewhere, []api.Errno{api.ErrTTL, api.ErrArg}[i/2], []api.Errno{api.ErrArg, api.ErrTTL}[i/2])
	}
}

// P10.1 to P10.4: packets of many shapes, most of them right.
func TestMixed(t *testing.T) {
	r := rand.New(rand.NewPCG(10, 2026))
	body := func(most int) string {
		b := make([]byte, r.IntN(most+1))
		for i := range b {
			b[i] = byte(r.Uint32() >> r.IntN(32))
		}
		return string(b)
	}
	rare := func(n, often int) int {
		if r.IntN(20) == 0 {
			return n
		}
		return often
	}
	address := func() uint32 {
		if r.IntN(2) == 0 {
			return oddAddresses[r.IntN(len(oddAddresses))]
		}
		return r.Uint32()
	}
	port := func() int {
		return []int{0, 1, 65535, r.IntN(65536), r.IntN(65536), r.IntN(65536)}[r.IntN(6)]
	}
	inside := func(proto int) string {
		h := from(proto, address(), address())
		h.tos, h.id, h.flags, h.ttl, h.off = r.IntN(256), r.IntN(65536), 2*r.IntN(4), rare(r.IntN(2), r.IntN(256)), uint16(rare(1, 0))
		h.opts = strings.Repeat([]string{"\x01\x01\x01\x01", "\x44\x04\x00\x00"}[r.IntN(2)], rare(r.IntN(11), 0))
		if proto == 6 {
			return h.with(seg{src: port(), dst: port(), flags: r.IntN(4096), opts: strings.Repeat("\x01\x01\x03\x02", r.IntN(11)), body: body(60), off: uint16(rare(r.IntN(65536), 0))}.in(h))
		}
		return h.with(dat{src: port(), dst: port(), body: body(60), more: body(3), off: uint16(rare(r.IntN(65536), 0)), none: r.IntN(8) == 0}.in(h))
	}
	kinds := map[api.Errno]int{}
	for range 60000 {
		s := inside([]int{6, 17}[r.IntN(2)])
		if r.IntN(2) == 0 {
			quote := put16(s, 10, rare(r.IntN(65536), word(s, 10)))
			quote = quote[:rare(r.IntN(len(s)+1), min(len(s), 28+r.IntN(60)))]
			h := from(1, address(), address())
			h.ttl, h.opts = rare(r.IntN(2), r.IntN(256)), strings.Repeat("\x01\x01\x01\x01", rare(r.IntN(11), 0))
			s = h.with(msg{kind: rare(r.IntN(256), []int{3, 11, 12}[r.IntN(3)]), code: r.IntN(16), rest: r.Uint32(), quote: quote, off: uint16(rare(1, 0))}.text())
		}
		to := Ends{address(), address(), rare(oddPorts[r.IntN(len(oddPorts))], port()), rare(oddPorts[r.IntN(len(oddPorts))], port())}
		s += body(4)
		both(t, s, address(), address(), to)
		_, e := plainAgain(s, to)
		_, f := aboutAgain(s, 0, 0, to)
		kinds[min(e, f)]++
	}
	if kinds[api.OK] < 20000 || kinds[api.ErrArg] < 1000 || kinds[api.ErrSum] < 100 {
		t.Errorf("too few of a kind: %v", kinds)
	}
}

// P1 of the rules: texts of all kinds, of none and of many bytes.
func TestAnything(t *testing.T) {
	for size := range 120 {
		for n := range 256 {
			both(t, strings.Repeat(string([]byte{byte(n)}), size), 1, 2, elsewhere)
		}
		both(t, some(size), 1, 2, elsewhere)
		both(t, "\x45"+some(size), 1, 2, Ends{SrcPort: -1})
		both(t, "\x4f"+some(size), 1, 2, Ends{DstPort: math.MaxInt})
	}
	for _, size := range []int{1500, 1501, 65535, 65536, 65537, 1 << 20} {
		both(t, "\x45\x00\xff\xff"+some(size), 1, 2, elsewhere)
		both(t, strings.Repeat("\x00", size), 1, 2, elsewhere)
		for _, s := range frames(9, "", "body") {
			both(t, s+some(size), 1, 2, elsewhere)
		}
	}
}

// P3 of the rules: nothing that is handed in is written into, nor what stands around it, nor kept; what is answered is new memory.
func TestNothingKept(t *testing.T) {
	udp := of(17)
	for _, s := range append(frames(9, "", "body"), udp.with(dat{src: 1, dst: 2, none: true}.in(udp)), told(asked(6, "")[:28])) {
		p, _ := packet.Classify(s)
		to := Ends{p.Tuple.Src, p.Tuple.Dst, p.Tuple.SrcPort, p.Tuple.DstPort}
		for _, to := range []Ends{to, elsewhere} {
			call, again := Plain, plainAgain
			if p.Kind == packet.About {
				call = func(s string, to Ends) (string, api.Errno) { return About(s, 1, 2, to) }
				again = func(s string, to Ends) (string, api.Errno) { return aboutAgain(s, 1, 2, to) }
			}
			kept := "<<" + s + ">>"
			room := []byte(kept)
			want, _ := again(s, to)
			in := unsafe.String(&room[2], len(s))
			a, e := call(in, to)
			b, f := call(in, to)
			if string(room) != kept {
				t.Errorf("the packet that was handed in is now %s", brief(string(room)))
			}
			clear(room)
			if a != want || b != want || e != api.OK || f != api.OK {
				t.Errorf("what was made of %s became %s, %d, and %s, %d", brief(s), brief(a), e, brief(b), f)
			}
			if unsafe.StringData(a) == unsafe.StringData(b) {
				t.Errorf("two answers to %s are one", brief(s))
			}
		}
	}
}
