package packet

import (
	"encoding/binary"
	"encoding/hex"
	"fmt"
	"math"
	"math/rand/v2"
	"strings"
	"testing"
	"unsafe"

	"weighbridge/api"
)

// some is a text of that many bytes, which go up and down.
func some(size int) string {
	b := make([]byte, size)
	for i := range b {
		b[i] = byte(i*i*7 + i/3 + 11)
	}
	return string(b)
}

// hexed is what these digits in pairs are.
func hexed(digits string) string {
	b, err := hex.DecodeString(strings.ReplaceAll(digits, " ", ""))
	if err != nil {
		panic(err)
	}
	return string(b)
}

// sumPlain says the Sum of chapter 3 over again, by its remainder: what is carried round is never 0, unless all is.
func sumPlain(s string) int {
	n := 0
	for i := range len(s) {
		n += int(s[i]) << (8 * (1 - i%2))
	}
	if n == 0 {
		return 0
	}
	return (n-1)%65535 + 1
}

// word is the number of two bytes of s from at on.
func word(s string, at int) int {
	return int(s[at])<<8 | int(s[at+1])
}

// long is the number of four bytes of s from at on.
func long(s string, at int) uint32 {
	return uint32(word(s, at))<<16 | uint32(word(s, at+2))
}

// put is s with these bytes from at on.
func put(s string, at int, bytes ...byte) string {
	b := []byte(s)
	copy(b[at:], bytes)
	return string(b)
}

// put16 is s with n in two bytes from at on.
func put16(s string, at, n int) string {
	return put(s, at, byte(n>>8), byte(n))
}

// numberOr is what p points to, if it does.
func numberOr(p *int, n int) int {
	if p == nil {
		return n
	}
	return *p
}

// head is a header of IPv4, right or wrong: units and total, if they are told, are not the right ones, and the check is the right one with the bits of off turned.
type head struct {
	version, tos, id, flags, frag, ttl, proto int
	src, dst                                  uint32
	opts                                      string
	units, total                              *int
	off                                       uint16
}

// of is a right head of that protocol.
func of(proto int) head {
	return head{version: 4, ttl: 9, proto: proto, src: 0x0a000001, dst: 0xc0a80102}
}

// from is a right head of that protocol and these addresses.
func from(proto int, src, dst uint32) head {
	return head{version: 4, ttl: 9, proto: proto, src: src, dst: dst}
}

// with is the packet with that body, byte by byte.
func (h head) with(body string) string {
	size := 20 + len(h.opts)
	b := []byte{byte(h.version<<4 | numberOr(h.units, size/4)), byte(h.tos)}
	b = binary.BigEndian.AppendUint16(b, uint16(numberOr(h.total, size+len(body))))
	b = binary.BigEndian.AppendUint16(b, uint16(h.id))
	b = binary.BigEndian.AppendUint16(b, uint16(h.flags<<13|h.frag))
	b = append(b, byte(h.ttl), byte(h.proto), 0, 0)
	b = binary.BigEndian.AppendUint32(b, h.src)
	b = binary.BigEndian.AppendUint32(b, h.dst)
	s := string(b) + h.opts
	return put16(s, 10, 65535-sumPlain(s)^int(h.off)) + body
}

// seg is a segment of TCP, right or wrong, as head is.
type seg struct {
	src, dst, flags int
	opts, body      string
	units           *int
	off             uint16
}

// in is the segment between the addresses of h, byte by byte.
func (g seg) in(h head) string {
	b := binary.BigEndian.AppendUint16(nil, uint16(g.src))
	b = binary.BigEndian.AppendUint16(b, uint16(g.dst))
	b = append(b, 0, 0, 3, 232, 0, 0, 7, 208)
	b = binary.BigEndian.AppendUint16(b, uint16(numberOr(g.units, 5+len(g.opts)/4)<<12|g.flags))
	b = append(b, 250, 240, 0, 0, 0, 0)
	return checked(h, 6, 16, string(b)+g.opts+g.body, g.off)
}

// dat is a datagram of UDP, right or wrong, as head is.
type dat struct {
	src, dst int
	body     string
	length   *int
	off      uint16
}

// in is the datagram between the addresses of h, byte by byte.
func (d dat) in(h head) string {
	b := binary.BigEndian.AppendUint16(nil, uint16(d.src))
	b = binary.BigEndian.AppendUint16(b, uint16(d.dst))
	b = binary.BigEndian.AppendUint16(b, uint16(numberOr(d.length, 8+len(d.body))))
	return checked(h, 17, 6, string(append(b, 0, 0))+d.body, d.off)
}

// checked is s with its check at that place, with the bits of off turned. Of UDP it is about as much as the length says.
func checked(h head, proto, at int, s string, off uint16) string {
	covered := s
	if length := word(s, 4); proto == 17 && 8 <= length && length <= len(s) {
		covered = s[:length]
	}
	check := 65535 - sumPlain(fake(proto, h.src, h.dst, covered)+put16(covered, at, 0))
	if proto == 17 && check == 0 {
		check = 65535
	}
	return put16(s, at, check^int(off))
}

// fake is what is summed ahead of a segment.
func fake(proto int, src, dst uint32, covered string) string {
	b := binary.BigEndian.AppendUint32(nil, src)
	b = binary.BigEndian.AppendUint32(b, dst)
	return string(append(b, 0, byte(proto), byte(len(covered)>>8), byte(len(covered))))
}

// msg is a message of ICMP, right or wrong, as head is.
type msg struct {
	kind, code int
	quote      string
	off        uint16
}

// text is the message byte by byte.
func (m msg) text() string {
	s := string([]byte{byte(m.kind), byte(m.code), 0, 0, 0, 0, 5, 120}) + m.quote
	return put16(s, 2, 65535-sumPlain(s)^int(m.off))
}

// told is a packet with a message about that quote.
func told(quote string) string {
	return of(1).with(msg{kind: 3, code: 4, quote: quote}.text())
}

// three are a right packet of each protocol, with these options.
func three(opts string) []string {
	var out []string
	for _, proto := range []int{6, 17, 1} {
		h := of(proto)
		h.opts = opts
		switch proto {
		case 6:
			out = append(out, h.with(seg{src: 40000, dst: 80, flags: 2, body: "body"}.in(h)))
		case 17:
			out = append(out, h.with(dat{src: 40000, dst: 53, body: "body"}.in(h)))
		default:
			out = append(out, h.with(msg{kind: 3, quote: asked(6)}.text()))
		}
	}
	return out
}

// asked is a right packet of TCP or UDP that may be quoted.
func asked(proto int) string {
	h := from(proto, 0x01020304, 0xf1f2f3f4)
	if proto == 17 {
		return h.with(dat{src: 0x1112, dst: 0xe1e2, body: "asked"}.in(h))
	}
	return h.with(seg{src: 0x1112, dst: 0xe1e2, flags: 2, body: "asked"}.in(h))
}

// optsPlain says P4.1 of OptsRight over again, option by option.
func optsPlain(s string) bool {
	if s == "" || s[0] == 0 {
		return true
	}
	if s[0] == 1 {
		return optsPlain(s[1:])
	}
	if len(s) < 2 || s[1] < 2 || int(s[1]) > len(s) {
		return false
	}
	return optsPlain(s[s[1]:])
}

// headPlain says P4.2 of Parse over again: the first error.
func headPlain(s string) api.Errno {
	switch {
	case len(s) < 20:
		return api.ErrShort
	case s[0]>>4 != 4:
		return api.ErrVersion
	}
	size := int(s[0]%16) * 4
	if size < 20 || size > len(s) {
		return api.ErrHeader
	}
	total := word(s, 2)
	switch {
	case total < size || total > len(s):
		return api.ErrLength
	case total > 1500:
		return api.ErrLong
	case sumPlain(s[:size]) != 65535:
		return api.ErrSum
	case !optsPlain(s[20:size]):
		return api.ErrOption
	}
	return api.OK
}

// bodyPlain says over again which error a body has, up to the quote.
func bodyPlain(proto int, src, dst uint32, body string) api.Errno {
	switch proto {
	case 6:
		if len(body) < 20 {
			return api.ErrShort
		}
		size := int(body[12]>>4) * 4
		switch {
		case size < 20 || size > len(body):
			return api.ErrHeader
		case !optsPlain(body[20:size]):
			return api.ErrOption
		case sumPlain(fake(6, src, dst, body)+body) != 65535:
			return api.ErrSum
		}
	case 17:
		if len(body) < 8 {
			return api.ErrShort
		}
		length := word(body, 4)
		if length < 8 || length > len(body) {
			return api.ErrLength
		}
		if word(body, 6) != 0 && sumPlain(fake(17, src, dst, body[:length])+body[:length]) != 65535 {
			return api.ErrSum
		}
	case 1:
		switch {
		case len(body) < 8:
			return api.ErrShort
		case sumPlain(body) != 65535:
			return api.ErrSum
		case body[0] != 3 && body[0] != 11 && body[0] != 12:
			return api.ErrType
		}
	default:
		return api.ErrProto
	}
	return api.OK
}

// quotePlain says over again which error a quote has.
func quotePlain(q string) api.Errno {
	switch {
	case len(q) < 20:
		return api.ErrShort
	case q[0] < 64 || q[0] > 79:
		return api.ErrVersion
	case q[0] < 69 || int(q[0]-64)*4 > len(q):
		return api.ErrHeader
	case word(q, 6)%8192 != 0:
		return api.ErrFragment
	case q[9] != 6 && q[9] != 17:
		return api.ErrProto
	case len(q) < int(q[0]-64)*4+8:
		return api.ErrShort
	}
	return api.OK
}

// classifyPlain says P9.1 and P9.2 over again, byte by byte.
func classifyPlain(s string) (Packet, api.Errno) {
	if e := headPlain(s); e != api.OK {
		return Packet{}, e
	}
	if word(s, 6)%16384 != 0 {
		return Packet{}, api.ErrFragment
	}
	at, total, proto := int(s[0]%16)*4, word(s, 2), int(s[9])
	body := s[at:total]
	p := Packet{Kind: 1, At: at, Total: total, TTL: int(s[8]), Src: long(s, 12), Dst: long(s, 16)}
	if e := bodyPlain(proto, p.Src, p.Dst, body); e != api.OK {
		return Packet{}, e
	}
	if proto != 1 {
		p.Tuple = api.Tuple{Proto: proto, Src: p.Src, Dst: p.Dst, SrcPort: word(body, 0), DstPort: word(body, 2)}
		if proto == 6 {
			p.Flags = word(body, 12) % 4096
		}
		return p, api.OK
	}
	q := body[8:]
	if e := quotePlain(q); e != api.OK {
		return Packet{}, e
	}
	size := int(q[0]%16) * 4
	p.Kind, p.Quote, p.Inner = 2, at+8, at+8+size
	p.Tuple = api.Tuple{Proto: int(q[9]), Src: long(q, 12), Dst: long(q, 16), SrcPort: word(q, size), DstPort: word(q, size+2)}
	return p, api.OK
}

// brief is s, or how long it is.
func brief(s string) string {
	if len(s) > 80 {
		return fmt.Sprintf("%x.. (%d bytes)", s[:80], len(s))
	}
	return fmt.Sprintf("%x", s)
}

// hold holds Classify against what it must be, twice.
func hold(t *testing.T, s string) {
	t.Helper()
	want, wantE := classifyPlain(s)
	for range 2 {
		if p, e := Classify(s); p != want || e != wantE {
			t.Fatalf("Classify(%s) = %+v, %d; want %+v, %d", brief(s), p, e, want, wantE)
		}
	}
}

// wants asks for just this error, with nothing beside it, or for none.
func wants(t *testing.T, name, s string, want api.Errno) {
	t.Helper()
	p, e := Classify(s)
	if e != want {
		t.Errorf("%s: Classify(%s) = %d; want %d", name, brief(s), e, want)
	}
	if none := p == (Packet{}); none != (want != api.OK) {
		t.Errorf("%s: Classify(%s) = %+v with the error %d", name, brief(s), p, e)
	}
	hold(t, s)
}

// P9.1: the chapter's example.
func TestNothing(t *testing.T) {
	wants(t, "nothing", "", api.ErrShort)
}

// P9.2: packets that were made elsewhere, and each field of theirs; what the chapter does not name is 0.
func TestFields(t *testing.T) {
	const a, b, c = 10<<24 | 1, 10<<24 | 2, 192<<24 | 168<<16 | 1<<8 | 1
	ahead := api.Tuple{Proto: 6, Src: a, Dst: b, SrcPort: 40000, DstPort: 80}
	for _, x := range []struct {
		name, digits string
		want         Packet
	}{
		{"TCP", "45 00 00 2c 1c 46 40 00 40 06 0a 84 0a 00 00 01 0a 00 00 02 9c 40 00 50 00 00 03 e8 00 00 00 00 60 02 fa f0 e8 ba 00 00 02 04 05 b4",
			Packet{Kind: 1, At: 20, Total: 44, Tuple: ahead, Flags: 2, TTL: 64, Src: a, Dst: b}},
		{"UDP, with options", "46 00 00 24 1c 46 40 00 01 11 46 80 0a 00 00 02 0a 00 00 01 01 01 01 00 00 35 9c 40 00 0c 88 75 62 6f 64 79",
			Packet{Kind: 1, At: 24, Total: 36, Tuple: api.Tuple{Proto: 17, Src: b, Dst: a, SrcPort: 53, DstPort: 40000}, TTL: 1, Src: b, Dst: a}},
		{"ICMP about that of TCP, cut", "45 00 00 38 1c 46 40 00 ff 01 93 d4 c0 a8 01 01 0a 00 00 01 03 04 57 0b 00 00 05 78 45 00 00 2c 1c 46 40 00 40 06 0a 84 0a 00 00 01 0a 00 00 02 9c 40 00 50 00 00 03 e8",
			Packet{Kind: 2, At: 20, Total: 56, Tuple: ahead, TTL: 255, Src: c, Dst: a, Quote: 28, Inner: 48}},
	} {
		s := hexed(x.digits)
		if p, e := Classify(s); p != x.want || e != api.OK {
			t.Errorf("%s: Classify = %+v, %d; want %+v", x.name, p, e, x.want)
		}
		hold(t, s)
	}
	if Plain != 1 || About != 2 {
		t.Errorf("the kinds are %d and %d", Plain, About)
	}
}

// P9.2: the addresses, the ports and the life of each kind at their edges, each of its own.
func TestEdgesOfFields(t *testing.T) {
	ports := []int{0, 1, 255, 256, 32768, 65534, 65535}
	addresses := []uint32{0, 1, 255, 256, 65536, 1<<31 - 1, 1 << 31, 1<<32 - 1}
	for i, src := range addresses {
		for j, dst := range addresses {
			for k, sp := range ports {
				for l, dp := range ports {
					for _, proto := range []int{6, 17} {
						h := from(proto, src, dst)
						h.ttl = (i*64 + j*49 + k*7 + l) % 256
						s := h.with(seg{src: sp, dst: dp, flags: 16}.in(h))
						if proto == 17 {
							s = h.with(dat{src: sp, dst: dp}.in(h))
						}
						want := api.Tuple{Proto: proto, Src: src, Dst: dst, SrcPort: sp, DstPort: dp}
						if p, e := Classify(s); e != api.OK || p.Kind != Plain || p.Tuple != want || p.Src != src || p.Dst != dst || p.TTL != h.ttl || p.Total != len(s) {
							t.Fatalf("Classify(%s) = %+v, %d; want %+v", brief(s), p, e, want)
						}
						hold(t, s)
						o := from(1, dst^0x01010101, src^0x10101010)
						o.ttl = 255 - h.ttl
						about := o.with(msg{kind: 11, quote: s}.text())
						if p, e := Classify(about); e != api.OK || p.Kind != About || p.Tuple != want || p.Src != o.src || p.Dst != o.dst || p.TTL != o.ttl || p.Total != 28+len(s) || p.Flags != 0 {
							t.Fatalf("Classify(%s) = %+v, %d; want %+v", brief(about), p, e, want)
						}
						hold(t, about)
					}
				}
			}
		}
	}
}

// P9.1: each error of Parse of chapter 4, of each protocol.
func TestHeaderErrors(t *testing.T) {
	for _, s := range three("") {
		name := fmt.Sprint("of ", s[9])
		for size := range 20 {
			wants(t, name+", cut", s[:size], api.ErrShort)
		}
		wants(t, name+", 20 bytes alone", s[:20], api.ErrLength)
		wants(t, name+", one byte less", s[:len(s)-1], api.ErrLength)
		wants(t, name+", as it is", s, api.OK)
		for first := range 256 {
			b := resummed(put(s, 0, byte(first)))
			switch {
			case first>>4 != 4:
				wants(t, name+", another version", b, api.ErrVersion)
			case first&15 < 5 || first&15*4 > len(b):
				wants(t, name+", another size", b, api.ErrHeader)
			default:
				hold(t, b)
			}
		}
		for total := range 1 << 16 {
			b := resummed(put16(s, 2, total))
			if total < 20 || total > len(s) {
				wants(t, name+", another total", b, api.ErrLength)
			} else {
				hold(t, b)
			}
		}
		for bit := range 8 * 20 {
			b := put(s, bit/8, s[bit/8]^1<<(bit%8))
			if bit >= 8*4 { // none of the version and of the lengths
				wants(t, name+", a bit turned", b, api.ErrSum)
			} else {
				hold(t, b)
			}
		}
	}
	for _, opts := range []string{"\x02\x01\x00\x00", "\x02\x00\x00\x00", "\x07\x05\x00\x00", "\x01\x01\x01\x02", "\x44\x06\x00\x00\x01\x01\x83\x03"} {
		for _, s := range three(opts) {
			wants(t, fmt.Sprint("of ", s[9], ", options that are none"), s, api.ErrOption)
		}
	}
	for _, size := range []int{1499, 1500, 1501, 1502, 1600, 9000, 65535} {
		want := api.OK
		if size > 1500 {
			want = api.ErrLong
		}
		for _, s := range longOnes(size) {
			wants(t, fmt.Sprint("of ", s[9], ", ", size, " bytes"), s, want)
		}
	}
}

// resummed is s with the check of its header anew, as long as the header is told to be.
func resummed(s string) string {
	s = put16(s, 10, 0)
	return put16(s, 10, 65535-sumPlain(s[:min(len(s), int(s[0]%16)*4)]))
}

// longOnes are a packet of each protocol that has so many bytes.
func longOnes(size int) []string {
	return []string{
		of(6).with(seg{src: 1, dst: 2, body: some(size - 40)}.in(of(6))),
		of(17).with(dat{src: 1, dst: 2, body: some(size - 28)}.in(of(17))),
		of(1).with(msg{kind: 12, quote: asked(17) + some(size-28-len(asked(17)))}.text()),
	}
}

// P9.1: the lowest of Flags, the other two, and each Frag, of each protocol, also of such as are not carried.
func TestFragments(t *testing.T) {
	all := append(three(""), of(50).with("body"))
	for _, s := range all {
		_, whole := Classify(s)
		for n := range 1 << 16 {
			want := whole
			if n&0x2000 != 0 || n&0x1fff != 0 {
				want = api.ErrFragment
			}
			b := resummed(put16(s, 6, n))
			if p, e := Classify(b); e != want || (p == Packet{}) != (want != api.OK) {
				t.Fatalf("of %d, %04x in the bytes 6 and 7: %+v, %d; want %d", s[9], n, p, e, want)
			}
		}
	}
}

// P9.1: each protocol; a body is read as that of its own protocol.
func TestProtocols(t *testing.T) {
	for _, body := range []string{"", "x", some(8), some(20), asked(6), three("")[0][20:], three("")[1][20:], three("")[2][20:]} {
		for proto := range 256 {
			s := of(proto).with(body)
			if proto != 1 && proto != 6 && proto != 17 {
				wants(t, fmt.Sprint("protocol ", proto), s, api.ErrProto)
			}
			hold(t, s)
		}
	}
	for i, proto := range []int{6, 17, 1} {
		wants(t, fmt.Sprint("protocol ", proto), three("")[i], api.OK)
	}
}

// P9.1: each error of a segment of TCP: of Parse, then of Verify.
func TestSegments(t *testing.T) {
	h := of(6)
	whole := seg{src: 40000, dst: 80, flags: 18, body: some(50)}.in(h)
	for size := range 20 {
		wants(t, "too few bytes", h.with(whole[:size]), api.ErrShort)
	}
	for units := range 16 {
		for size := range 81 {
			g := seg{src: 40000, dst: 80, flags: 18, body: strings.Repeat("\x01", size), units: &units}
			want := api.OK
			if units < 5 || units*4 > 20+size {
				want = api.ErrHeader
			}
			wants(t, fmt.Sprint("a header of ", units*4, " of ", 20+size), h.with(g.in(h)), want)
			g.off = 1
			if want == api.OK {
				want = api.ErrSum
			}
			wants(t, fmt.Sprint("a wrong check, a header of ", units*4, " of ", 20+size), h.with(g.in(h)), want)
		}
	}
	for _, opts := range []string{"\x02\x01\x00\x00", "\x02\x00\x00\x00", "\x07\x05\x00\x00", "\x01\x01\x01\x02"} {
		wants(t, "options that are none", h.with(seg{src: 1, dst: 2, opts: opts}.in(h)), api.ErrOption)
		wants(t, "options that are none, a wrong check", h.with(seg{src: 1, dst: 2, opts: opts, off: 1}.in(h)), api.ErrOption)
	}
	for _, opts := range []string{"\x02\x04\x05\xb4", "\x00\x02\x01\x00", "\x01\x01\x01\x01", strings.Repeat("\x01", 40)} {
		wants(t, "options", h.with(seg{src: 1, dst: 2, opts: opts}.in(h)), api.OK)
	}
	for bit := range 8 * len(whole) {
		b := h.with(put(whole, bit/8, whole[bit/8]^1<<(bit%8)))
		if bit/8 == 12 && bit%8 >= 4 { // the header's size
			hold(t, b)
		} else {
			wants(t, "a bit turned", b, api.ErrSum)
		}
	}
	wants(t, "another from", from(6, h.src+1, h.dst).with(whole), api.ErrSum)
	wants(t, "another to", from(6, h.src, h.dst^1<<31).with(whole), api.ErrSum)
	wants(t, "turned ends", from(6, h.dst, h.src).with(whole), api.OK)
	wants(t, "0 in the check's place", h.with(put16(whole, 16, 0)), api.ErrSum)
	wants(t, "a byte more", h.with(whole+"\x00"), api.ErrSum)
}

// P9.2: Flags are all twelve of TCP's; of UDP there are none, and of ICMP none.
func TestFlags(t *testing.T) {
	for flags := range 1 << 12 {
		h := of(6)
		s := h.with(seg{src: 1, dst: 2, flags: flags, opts: "\x01\x01\x01\x01"}.in(h))
		if p, e := Classify(s); p.Flags != flags || e != api.OK {
			t.Fatalf("Flags of %d are %d, %d", flags, p.Flags, e)
		}
		if p, e := Classify(told(s)); p.Flags != 0 || e != api.OK {
			t.Fatalf("Flags of a message about %d are %d, %d", flags, p.Flags, e)
		}
		body := strings.Repeat("\xff", flags%30)
		if p, e := Classify(of(17).with(dat{src: 1, dst: 2, body: body}.in(of(17)))); p.Flags != 0 || e != api.OK {
			t.Fatalf("Flags of UDP are %d, %d", p.Flags, e)
		}
	}
}

// P9.1: each error of a datagram of UDP: of Parse, then of Verify; with 0 in the check's place there is none to verify.
func TestDatagrams(t *testing.T) {
	h := of(17)
	whole := dat{src: 40000, dst: 53, body: some(30)}.in(h)
	for size := range 8 {
		wants(t, "too few bytes", h.with(whole[:size]), api.ErrShort)
	}
	for length := range 1 << 16 {
		d := dat{src: 40000, dst: 53, body: some(30), length: &length}
		want, wrong := api.OK, api.ErrSum
		if length < 8 || length > 38 {
			want, wrong = api.ErrLength, api.ErrLength
		}
		s := d.in(h)
		wants(t, fmt.Sprint("a length of ", length), h.with(s), want)
		wants(t, fmt.Sprint("no check, a length of ", length), h.with(put16(s, 6, 0)), want)
		wants(t, fmt.Sprint("a wrong check, a length of ", length), h.with(put16(s, 6, word(s, 6)^0x4000)), wrong)
	}
	for check := range 1 << 16 {
		want := api.ErrSum
		if check == 0 || check == word(whole, 6) {
			want = api.OK
		}
		wants(t, fmt.Sprintf("a check of %04x", check), h.with(put16(whole, 6, check)), want)
	}
	for bit := range 8 * len(whole) {
		b := h.with(put(whole, bit/8, whole[bit/8]^1<<(bit%8)))
		if at := bit / 8; at == 4 || at == 5 {
			hold(t, b)
		} else {
			wants(t, "a bit turned", b, api.ErrSum)
		}
	}
	wants(t, "another from", from(17, h.src+1, h.dst).with(whole), api.ErrSum)
	wants(t, "another to", from(17, h.src, h.dst^1<<31).with(whole), api.ErrSum)
	wants(t, "another from, no check", from(17, h.src+1, h.dst).with(put16(whole, 6, 0)), api.OK)
	wants(t, "more than its length", h.with(whole+"more"), api.OK)

	// where the check would be 0 there is 65535
	h = from(17, 0, 0)
	s := dat{src: 0xffde}.in(h)
	if word(s, 6) != 65535 {
		t.Fatalf("the check is %04x", word(s, 6))
	}
	wants(t, "a check that would be 0", h.with(s), api.OK)
}

// P9.1: each error of a message of ICMP: of Parse, then its Type.
func TestMessages(t *testing.T) {
	quote := asked(6)
	for kind := range 256 {
		for _, code := range []int{0, 1, 4, 255} {
			whole := msg{kind: kind, code: code, quote: quote}.text()
			want := api.ErrType
			if kind == 3 || kind == 11 || kind == 12 {
				want = api.OK
			}
			wants(t, fmt.Sprint("Type ", kind), of(1).with(whole), want)
			wants(t, fmt.Sprint("Type ", kind, ", a wrong check"), of(1).with(put16(whole, 2, word(whole, 2)^1)), api.ErrSum)
			if want == api.OK {
				want = api.ErrShort
			}
			wants(t, fmt.Sprint("Type ", kind, ", no quote"), of(1).with(msg{kind: kind, code: code}.text()), want)
			for size := range 8 {
				wants(t, fmt.Sprint("Type ", kind, ", too few bytes"), of(1).with(whole[:size]), api.ErrShort)
			}
		}
	}
	whole := msg{kind: 3, quote: quote}.text()
	for bit := range 8 * len(whole) {
		wants(t, "a bit turned", of(1).with(put(whole, bit/8, whole[bit/8]^1<<(bit%8))), api.ErrSum)
	}
	wants(t, "other addresses", from(1, 99, 98).with(whole), api.OK)
	wants(t, "0 in the check's place", of(1).with(put16(whole, 2, 0)), api.ErrSum)
}

// P9.1 and P9.2: a quote of each size, with each size of options: where it ends, and where it begins.
func TestQuoteSizes(t *testing.T) {
	for _, proto := range []int{6, 17} {
		for opts := 0; opts <= 40; opts += 4 {
			h := from(proto, 0x01020304, 0xf1f2f3f4)
			h.opts = some(opts) // no options that would be right: nobody asks
			quote := h.with("\x11\x12\xe1\xe2" + some(40))
			size := 20 + opts
			for cut := range len(quote) + 1 {
				want := api.OK
				switch {
				case cut < 20:
					want = api.ErrShort
				case cut < size:
					want = api.ErrHeader
				case cut < size+8:
					want = api.ErrShort
				}
				name := fmt.Sprint("of ", proto, ", a header of ", size, ", cut to ", cut)
				for outer := 0; outer <= 40; outer += 20 {
					o := of(1)
					o.opts = strings.Repeat("\x01", outer)
					s := o.with(msg{kind: 11, quote: quote[:cut]}.text())
					wants(t, name, s, want)
					p := Packet{Kind: About, At: 20 + outer, Total: 28 + outer + cut, TTL: 9, Src: o.src, Dst: o.dst, Quote: 28 + outer, Inner: 28 + outer + size,
						Tuple: api.Tuple{Proto: proto, Src: 0x01020304, Dst: 0xf1f2f3f4, SrcPort: 0x1112, DstPort: 0xe1e2}}
					if got, e := Classify(s); e == api.OK && got != p {
						t.Errorf("%s: %+v; want %+v", name, got, p)
					}
				}
			}
		}
	}
	quote := asked(6)
	for cut, want := range map[int]api.Errno{0: api.ErrShort, 19: api.ErrShort, 20: api.ErrShort, 27: api.ErrShort, 28: api.OK, len(quote): api.OK} {
		wants(t, fmt.Sprint("a quote of ", cut), told(quote[:cut]), want)
	}
}

// P9.1: the first byte of a quote: its version, then its header's size.
func TestQuoteFirstByte(t *testing.T) {
	quote := asked(6)[:20] + some(60)
	for first := range 256 {
		size := first % 16 * 4
		for _, cut := range []int{20, 21, 23, 24, 27, 28, 31, 32, 59, 60, 61, 67, 68, 69, 80} {
			want := api.OK
			switch {
			case first/16 != 4:
				want = api.ErrVersion
			case size < 20 || size > cut:
				want = api.ErrHeader
			case cut-size < 8:
				want = api.ErrShort
			}
			wants(t, fmt.Sprintf("%02x first, a quote of %d", first, cut), told(put(quote, 0, byte(first))[:cut]), want)
		}
	}
}

// P9.1: the bytes 6 and 7 of a quote: the three bits above count for nothing, the lowest of Flags among them.
func TestQuoteFragments(t *testing.T) {
	for _, quote := range []string{asked(6), asked(17)[:28]} {
		for n := range 1 << 16 {
			want := api.OK
			if n&0x1fff != 0 {
				want = api.ErrFragment
			}
			s := told(put16(quote, 6, n))
			if p, e := Classify(s); e != want || (p == Packet{}) != (want != api.OK) {
				t.Fatalf("%04x in the bytes 6 and 7 of a quote: %+v, %d; want %d", n, p, e, want)
			}
		}
		for _, n := range []int{0, 1, 0x1000, 0x1fff, 0x2000, 0x4000, 0x8000, 0xe000, 0x2001, 0xffff} {
			hold(t, told(put16(quote, 6, n)))
		}
	}
}

// P9.1: the byte 9 of a quote: TCP and UDP alone, not ICMP.
func TestQuoteProtocols(t *testing.T) {
	for proto := range 256 {
		want := api.ErrProto
		if proto == 6 || proto == 17 {
			want = api.OK
		}
		wants(t, fmt.Sprint("a quote of ", proto), told(put(asked(6), 9, byte(proto))), want)
		wants(t, fmt.Sprint("a cut quote of ", proto), told(put(asked(17), 9, byte(proto))[:28]), want)
	}
}

// P9.1 and P9.2: nothing else of a quote counts: its TOS, its total, its ID, its life, its check, its options, what is behind its ports.
func TestQuoteElse(t *testing.T) {
	for _, quote := range []string{asked(6), asked(17), asked(6)[:28], asked(17)[:28]} {
		want, e := Classify(told(quote))
		if e != api.OK {
			t.Fatalf("a quote as it is: %d", e)
		}
		for at := range quote {
			switch {
			case at == 0, 6 <= at && at <= 7, at == 9, 12 <= at && at < 24:
				continue
			}
			for n := range 256 {
				if p, e := Classify(told(put(quote, at, byte(n)))); p != want || e != api.OK {
					t.Fatalf("%d in the byte %d of a quote: %+v, %d; want %+v", n, at, p, e, want)
				}
			}
		}
		for at := range 24 {
			for n := range 256 {
				hold(t, told(put(quote, at, byte(n))))
			}
		}
	}
	o := of(1)
	o.opts = "\x44\x08\x00\x00\x01\x02\x03\x04"
	wants(t, "a quote that is about ICMP", told(told(asked(6))), api.ErrProto)
	wants(t, "a quote in a packet with options", o.with(msg{kind: 12, quote: asked(17)}.text()), api.OK)
}

// P9.2: what stands behind a packet's total counts for nothing.
func TestBehind(t *testing.T) {
	for _, s := range append(three(""), three("\x01\x01\x01\x00")...) {
		want, e := Classify(s)
		if e != api.OK || want.Total != len(s) {
			t.Fatalf("Classify(%s) = %+v, %d", brief(s), want, e)
		}
		for _, behind := range []string{"\x00", "x", "pad", s, some(99), strings.Repeat("\xff", 1500), some(70000)} {
			if p, e := Classify(s + behind); p != want || e != api.OK {
				t.Errorf("with %d bytes behind: %+v, %d; want %+v", len(behind), p, e, want)
			}
			hold(t, s+behind)
		}
	}
	quote := asked(6)
	for cut := range 28 {
		wants(t, "a quote that goes on behind the total", told(quote[:cut])+quote[cut:], api.ErrShort)
	}
	h := of(6)
	segment := seg{src: 1, dst: 2, body: "body"}.in(h)
	for cut := range 20 {
		wants(t, "a segment that goes on behind the total", h.with(segment[:cut])+segment[cut:], api.ErrShort)
	}
	wants(t, "a segment that goes on behind the total", h.with(segment[:22])+segment[22:], api.ErrSum)
	h = of(17)
	datagram := dat{src: 1, dst: 2, body: "body"}.in(h)
	for cut := range len(datagram) {
		want := api.ErrShort
		if cut >= 8 {
			want = api.ErrLength
		}
		wants(t, "a datagram that goes on behind the total", h.with(datagram[:cut])+datagram[cut:], want)
	}
}

// P9.2: packets with options: where the body begins.
func TestOptions(t *testing.T) {
	for size := 0; size <= 40; size += 4 {
		for _, opts := range []string{strings.Repeat("\x00", size), strings.Repeat("\x01", size), strings.Repeat("\x44\x04\xff\xfe", size/4)} {
			for i, s := range three(opts) {
				p, e := Classify(s)
				if e != api.OK || p.At != 20+size || p.Total != len(s) {
					t.Errorf("%d bytes of options: %+v, %d", size, p, e)
				}
				if i == 2 && (p.Quote != 28+size || p.Inner != 48+size) || i < 2 && (p.Quote != 0 || p.Inner != 0) {
					t.Errorf("%d bytes of options: the quote begins at %d, and ends its header at %d", size, p.Quote, p.Inner)
				}
				hold(t, s)
			}
		}
	}
}

// frame is a packet that may have several faults at once.
type frame struct {
	outer head
	cut   bool // to fewer bytes than a header has
	long  bool
	seg   seg
	dat   dat
	msg   msg
	inner head
	// to how many bytes the body, and the quote, are cut: all, if it is 0
	bodyCut, quoteCut int
}

// text is the frame byte by byte. The protocol of the body is kind, whatever the header says.
func (f frame) text(kind int) string {
	body := ""
	switch kind {
	case 6:
		body = f.seg.in(f.outer)
	case 17:
		body = f.dat.in(f.outer)
	default:
		f.msg.quote = f.inner.with("\x00\x01\x00\x02ports")
		if f.quoteCut > 0 {
			f.msg.quote = f.msg.quote[:f.quoteCut]
		}
		body = f.msg.text()
	}
	if f.bodyCut > 0 {
		body = body[:f.bodyCut]
	}
	s := f.outer.with(body)
	if f.long {
		s = f.outer.with(body + strings.Repeat("\x00", 1600))
	}
	if f.cut {
		s = s[:19]
	}
	return s
}

// fault is one thing that is wrong with a frame.
type fault struct {
	name string
	e    api.Errno
	do   func(f *frame)
}

// faults are all that a frame may have whose body is of that protocol, in the order in which they are told.
func faults(kind int) []fault {
	list := []fault{
		{"short", api.ErrShort, func(f *frame) { f.cut = true }},
		{"version", api.ErrVersion, func(f *frame) { f.outer.version = 6 }},
		{"header", api.ErrHeader, func(f *frame) { f.outer.units = new(4) }},
		{"length", api.ErrLength, func(f *frame) { f.outer.total = new(65535) }},
		{"long", api.ErrLong, func(f *frame) { f.long = true }},
		{"sum", api.ErrSum, func(f *frame) { f.outer.off = 256 }},
		{"option", api.ErrOption, func(f *frame) { f.outer.opts = "\x02\x01\x01\x01" }},
		{"fragment", api.ErrFragment, func(f *frame) { f.outer.flags, f.outer.frag = 1, 7 }},
		{"protocol", api.ErrProto, func(f *frame) { f.outer.proto = 50 }},
	}
	switch kind {
	case 6:
		return append(list, []fault{
			{"short segment", api.ErrShort, func(f *frame) { f.bodyCut = 19 }},
			{"segment's header", api.ErrHeader, func(f *frame) { f.seg.units = new(15) }},
			{"segment's option", api.ErrOption, func(f *frame) { f.seg.opts = "\x02\x01\x01\x01" }},
			{"segment's sum", api.ErrSum, func(f *frame) { f.seg.off = 1 }},
		}...)
	case 17:
		return append(list, []fault{
			{"short datagram", api.ErrShort, func(f *frame) { f.bodyCut = 7 }},
			{"datagram's length", api.ErrLength, func(f *frame) { f.dat.length = new(7) }},
			{"datagram's sum", api.ErrSum, func(f *frame) { f.dat.off = 1 }},
		}...)
	}
	return append(list, []fault{
		{"short message", api.ErrShort, func(f *frame) { f.bodyCut = 7 }},
		{"message's sum", api.ErrSum, func(f *frame) { f.msg.off = 1 }},
		{"type", api.ErrType, func(f *frame) { f.msg.kind = 8 }},
		{"short quote", api.ErrShort, func(f *frame) { f.quoteCut = 19 }},
		{"quote's version", api.ErrVersion, func(f *frame) { f.inner.version = 5 }},
		{"quote's header", api.ErrHeader, func(f *frame) { f.inner.units = new(15) }},
		{"quote's fragment", api.ErrFragment, func(f *frame) { f.inner.frag = 4096 }},
		{"quote's protocol", api.ErrProto, func(f *frame) { f.inner.proto = 1 }},
		{"quote cut behind its header", api.ErrShort, func(f *frame) {
			if f.quoteCut == 0 {
				f.quoteCut = 27
			}
		}},
	}...)
}

// P9.1: of several errors the first one is told, and nothing beside it: one, two, three of them, all from one on.
func TestSeveralErrors(t *testing.T) {
	for _, kind := range []int{6, 17, 1} {
		list := faults(kind)
		try := func(which ...int) {
			t.Helper()
			f := frame{outer: of(kind), seg: seg{src: 1, dst: 2}, dat: dat{src: 1, dst: 2, body: "body"}, msg: msg{kind: 3}, inner: of(6)}
			names := make([]string, len(which))
			for i, w := range which {
				list[w].do(&f)
				names[i] = list[w].name
			}
			want := api.OK
			if len(which) > 0 {
				want = list[which[0]].e
			}
			wants(t, fmt.Sprint("of ", kind, ": ", strings.Join(names, ", ")), f.text(kind), want)
		}
		try()
		for i := range list {
			try(i)
			rest := []int{}
			for j := i; j < len(list); j++ {
				rest = append(rest, j)
			}
			try(rest...)
			for j := i + 1; j < len(list); j++ {
				try(i, j)
				for k := j + 1; k < len(list); k++ {
					try(i, j, k)
				}
			}
		}
	}
}

// P9.1 and P9.2: each byte of packets as each other one, its header's check made anew or not; packets cut anywhere.
func TestMany(t *testing.T) {
	kinds := append(three(""), three("\x44\x08\x01\x02\x01\x01\x01\x00")...)
	for _, s := range append(kinds, told(asked(17)[:28]), told(of(6).with(some(9))), of(17).with(put16(some(20), 6, 0))) {
		for at := range s {
			for n := range 256 {
				b := put(s, at, byte(n))
				hold(t, b)
				if at < 20 {
					hold(t, resummed(b))
				}
			}
		}
		for cut := range len(s) + 1 {
			hold(t, s[:cut])
			hold(t, s[cut:])
			if cut >= 20 {
				hold(t, resummed(put16(s[:cut], 2, cut)))
			}
		}
	}
}

// P9.1 and P9.2: packets of many shapes, most of them with sums that are right.
func TestMixed(t *testing.T) {
	r := rand.New(rand.NewPCG(9, 2026))
	some := func(most int) string {
		b := make([]byte, r.IntN(most+1))
		for i := range b {
			b[i] = byte(r.Uint32() >> r.IntN(32))
		}
		return string(b)
	}
	rare := func(n, often int) int {
		if r.IntN(12) == 0 {
			return n
		}
		return often
	}
	bare := func(proto int) head {
		h := head{version: rare(r.IntN(16), 4), tos: r.IntN(256), id: r.IntN(65536), flags: rare(1, 2*r.IntN(4)), frag: rare(r.IntN(8192), 0), ttl: r.IntN(256), proto: rare(r.IntN(256), proto), src: r.Uint32(), dst: r.Uint32(), off: uint16(rare(1, 0))}
		h.opts = strings.Repeat([]string{"\x01\x01\x01\x01", "\x44\x04\x00\x00", "\x02\x01\x00\x00"}[rare(2, r.IntN(2))], r.IntN(11))
		return h
	}
	kinds := map[int]int{}
	for range 200000 {
		proto := []int{6, 17, 1}[r.IntN(3)]
		h := bare(proto)
		s := ""
		switch proto {
		case 6:
			s = seg{src: r.IntN(65536), dst: r.IntN(65536), flags: r.IntN(4096), opts: strings.Repeat("\x01\x01\x03\x02", r.IntN(11)), body: some(60), off: uint16(rare(r.IntN(65536), 0))}.in(h)
		case 17:
			d := dat{src: r.IntN(65536), dst: r.IntN(65536), body: some(60), off: uint16(rare(r.IntN(65536), 0))}
			if length := 8 + r.IntN(len(d.body)+1); r.IntN(4) == 0 {
				d.length = &length
			}
			s = d.in(h)
		default:
			quote := bare([]int{6, 17}[r.IntN(2)]).with(some(60))
			s = msg{kind: rare(r.IntN(256), []int{3, 11, 12}[r.IntN(3)]), code: r.IntN(16), quote: quote[:rare(r.IntN(len(quote)+1), len(quote))], off: uint16(rare(1, 0))}.text()
		}
		s = h.with(s) + some(4)
		p, _ := Classify(s)
		kinds[p.Kind]++
		hold(t, s)
	}
	if kinds[Plain] < 10000 || kinds[About] < 10000 || kinds[0] < 10000 {
		t.Errorf("too few of a kind: %v", kinds)
	}
}

// P1 of the rules: texts of all kinds, of none and of many bytes.
func TestAnything(t *testing.T) {
	for size := range 200 {
		for n := range 256 {
			hold(t, strings.Repeat(string([]byte{byte(n)}), size))
		}
		hold(t, some(size))
		hold(t, "\x45"+some(size))
		hold(t, "\x4f"+some(size))
	}
	for _, size := range []int{1500, 1501, 65535, 65536, 65537, 1 << 20} {
		hold(t, "\x45\x00\xff\xff"+some(size))
		hold(t, strings.Repeat("\x00", size))
		hold(t, resummed("\x45\x00\xff\xff"+some(size)))
		hold(t, resummed(put16("\x45\x00\x05\xdc"+some(size), 6, 0)))
	}
}

var oddNumbers = []int{math.MinInt, math.MinInt + 1, -1 << 33, -65536, -65535, -256, -255, -1, 0, 1, 6, 17, 254, 255, 256, 257, 65534, 65535, 65536, 65537, 1<<24 + 5, 1<<32 + 6, 1<<56 + 6, math.MaxInt - 1, math.MaxInt}

var oddAddresses = []uint32{0, 1, 255, 256, 65535, 65536, 0x01020304, 1<<31 - 1, 1 << 31, 1<<32 - 1}

// tuples hands on tuples of all numbers, also such as have no key.
func tuples(yield func(api.Tuple) bool) {
	for _, proto := range oddNumbers {
		for _, sp := range oddNumbers {
			for _, dp := range oddNumbers {
				for _, src := range oddAddresses {
					for _, dst := range oddAddresses {
						if !yield(api.Tuple{Proto: proto, Src: src, Dst: dst, SrcPort: sp, DstPort: dp}) {
							return
						}
					}
				}
			}
		}
	}
}

// P9.3 and P9.4: Reverse turns both ends, of any tuple, and turned twice it is as it was.
func TestReverse(t *testing.T) {
	if got, want := Reverse(api.Tuple{Proto: 6, Src: 1, Dst: 2, SrcPort: 3, DstPort: 4}), (api.Tuple{Proto: 6, Src: 2, Dst: 1, SrcPort: 4, DstPort: 3}); got != want {
		t.Errorf("Reverse = %+v; want %+v", got, want)
	}
	if got := Reverse(api.Tuple{}); got != (api.Tuple{}) {
		t.Errorf("Reverse of nothing = %+v", got)
	}
	for x := range tuples {
		got := Reverse(x)
		if got.Proto != x.Proto || got.Src != x.Dst || got.Dst != x.Src || got.SrcPort != x.DstPort || got.DstPort != x.SrcPort {
			t.Fatalf("Reverse(%+v) = %+v", x, got)
		}
		if again := Reverse(got); again != x {
			t.Fatalf("Reverse(%+v), turned twice, = %+v", x, again)
		}
	}
}

// keyPlain says P9.3 of Key over again.
func keyPlain(x api.Tuple) (string, bool) {
	if x.Proto < 0 || x.Proto > 255 || x.SrcPort < 0 || x.SrcPort > 65535 || x.DstPort < 0 || x.DstPort > 65535 {
		return "", false
	}
	b := []byte{byte(x.Proto)}
	b = binary.BigEndian.AppendUint32(b, x.Src)
	b = binary.BigEndian.AppendUint32(b, x.Dst)
	b = binary.BigEndian.AppendUint16(b, uint16(x.SrcPort))
	return string(binary.BigEndian.AppendUint16(b, uint16(x.DstPort))), true
}

// P9.3: keys, byte by byte, and which tuples have none.
func TestKey(t *testing.T) {
	for _, c := range []struct {
		x    api.Tuple
		want string
		ok   bool
	}{
		{api.Tuple{}, "00 00000000 00000000 0000 0000", true},
		{api.Tuple{Proto: 6, Src: 0x01020304, Dst: 0x05060708, SrcPort: 0x090a, DstPort: 0x0b0c}, "06 01020304 05060708 090a 0b0c", true},
		{api.Tuple{Proto: 255, Src: 1<<32 - 1, Dst: 1<<32 - 1, SrcPort: 65535, DstPort: 65535}, "ff ffffffff ffffffff ffff ffff", true},
		{api.Tuple{Proto: 0, Src: 1, Dst: 1 << 31, SrcPort: 65535, DstPort: 0}, "00 00000001 80000000 ffff 0000", true},
		{api.Tuple{Proto: 1, Src: 1 << 31, Dst: 1, SrcPort: 0, DstPort: 65535}, "01 80000000 00000001 0000 ffff", true},
		{api.Tuple{Proto: 256}, "", false},
		{api.Tuple{Proto: -1}, "", false},
		{api.Tuple{Proto: -6}, "", false},
		{api.Tuple{Proto: 6, SrcPort: 65536}, "", false},
		{api.Tuple{Proto: 6, SrcPort: -1}, "", false},
		{api.Tuple{Proto: 6, DstPort: 65536}, "", false},
		{api.Tuple{Proto: 6, DstPort: -1}, "", false},
	} {
		if key, ok := Key(c.x); key != hexed(c.want) || ok != c.ok {
			t.Errorf("Key(%+v) = %x, %v; want %s, %v", c.x, key, ok, c.want, c.ok)
		}
	}
	for x := range tuples {
		want, wantOK := keyPlain(x)
		key, ok := Key(x)
		if key != want || ok != wantOK || ok && len(key) != 13 {
			t.Fatalf("Key(%+v) = %x, %v; want %x, %v", x, key, ok, want, wantOK)
		}
	}
	for n := -70000; n <= 70000; n++ {
		for _, x := range []api.Tuple{{Proto: n}, {SrcPort: n}, {DstPort: n}} {
			want, wantOK := keyPlain(x)
			if key, ok := Key(x); key != want || ok != wantOK {
				t.Fatalf("Key(%+v) = %x, %v; want %x, %v", x, key, ok, want, wantOK)
			}
		}
	}
}

// P9.4: unlike tuples have unlike keys, of 13 bytes each.
func TestKeysUnlike(t *testing.T) {
	whose := map[string]api.Tuple{}
	many := 0
	for x := range tuples {
		key, ok := Key(x)
		if !ok {
			continue
		}
		if other, there := whose[key]; there || len(key) != 13 {
			t.Fatalf("%+v and %+v have one key, %x", x, other, key)
		}
		whose[key] = x
		many++
	}
	const protos, ports = 6, 10 // so many of oddNumbers may be one
	if want := protos * ports * ports * len(oddAddresses) * len(oddAddresses); many != want {
		t.Errorf("%d tuples have a key; want %d", many, want)
	}
}

// P3 of the rules: nothing that is handed in is written into, nor what stands around it, nor kept; a key is new memory.
func TestNothingKept(t *testing.T) {
	for _, s := range append(three(""), of(50).with("x"), told(asked(6)[:27])) {
		kept := "<<" + s + ">>"
		room := []byte(kept)
		want, wantE := classifyPlain(s)
		p, e := Classify(unsafe.String(&room[2], len(s)))
		if string(room) != kept {
			t.Errorf("the packet that was handed in is now %s", brief(string(room)))
		}
		clear(room)
		if p != want || e != wantE {
			t.Errorf("Classify(%s) became %+v, %d; want %+v, %d", brief(s), p, e, want, wantE)
		}
	}
	x := api.Tuple{Proto: 6, Src: 1, Dst: 2, SrcPort: 3, DstPort: 4}
	a, _ := Key(x)
	b, _ := Key(x)
	if a != b || unsafe.StringData(a) == unsafe.StringData(b) {
		t.Errorf("two keys of one tuple: %x at %p, %x at %p", a, unsafe.StringData(a), b, unsafe.StringData(b))
	}
}
