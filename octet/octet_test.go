package octet

import (
	"math"
	"slices"
	"strings"
	"testing"
	"unsafe"
)

// edges are numbers that lie at the ends of something: of a size, of a text, of 64 bits.
var edges = []int{
	math.MinInt64, math.MinInt64 + 1, math.MinInt64 + 4, math.MinInt32 - 1, math.MinInt32, -256, -5, -4, -3, -2, -1,
	0, 1, 2, 3, 4, 5, 6, 7, 8, 9, 10, 255, 256, 257, 1<<16 - 1, 1 << 16, 1<<24 - 1, 1 << 24, math.MaxInt32, math.MaxInt32 + 1,
	1<<32 - 1, 1 << 32, 1<<32 + 1, 1<<40 - 1, 1 << 40, 1 << 62, math.MaxInt64 - 4, math.MaxInt64 - 3, math.MaxInt64 - 1, math.MaxInt64,
}

var texts = []string{"", "\x00", "\xff", "ab", "\x01\x02\x03", "\xff\xff\xff\xff", "\x80\x00\x7f\xff\x00", "abcdefgh", "\xe2\x82\xac\xf0\x9f"}

// greatest is the greatest number of each size; the place is the size.
var greatest = [5]int{0, 255, 65535, 16777215, 4294967295}

// power is 256 to the given power, by multiplying alone.
func power(times int) int {
	n := 1
	for range times {
		n *= 256
	}
	return n
}

// getPlain says P1.1 of Get over again, in other means than the package's.
func getPlain(s string, at, size int) (int, bool) {
	if size < 1 || size > 4 || at < 0 || at > len(s) || len(s[at:]) < size {
		return 0, false
	}
	n := 0
	for i := 0; i < size; i++ {
		n += int(s[at+i]) * power(size-1-i)
	}
	return n, true
}

// putPlain says P1.1 of Put over again.
func putPlain(size, n int) (string, bool) {
	if size < 1 || size > 4 || n < 0 || n > greatest[size] {
		return "", false
	}
	var b strings.Builder
	for i := 0; i < size; i++ {
		b.WriteByte(byte(n / power(size-1-i) % 256))
	}
	return b.String(), true
}

// setPlain says P1.1 of Set over again.
func setPlain(s string, at, size, n int) (string, bool) {
	_, there := getPlain(s, at, size)
	put, room := putPlain(size, n)
	if !there || !room {
		return "", false
	}
	b := []byte(s)
	for i := 0; i < size; i++ {
		b[at+i] = put[i]
	}
	return string(b), true
}

// P1.1: Get, by examples.
func TestGet(t *testing.T) {
	for _, c := range []struct {
		s        string
		at, size int
		want     int
		ok       bool
	}{
		{"\x01\x02\x03", 1, 2, 515, true}, // the chapter's example
		{"\x01\x02\x03\x04", 0, 1, 1, true},
		{"\x01\x02\x03\x04", 0, 2, 258, true},
		{"\x01\x02\x03\x04", 0, 3, 66051, true},
		{"\x01\x02\x03\x04", 0, 4, 16909060, true},
		{"\x00\x00\x00\x00", 0, 4, 0, true},
		{"\xff", 0, 1, 255, true},
		{"\xff\xff", 0, 2, 65535, true},
		{"\xff\xff\xff", 0, 3, 16777215, true},
		{"\xff\xff\xff\xff", 0, 4, 4294967295, true}, // no sign
		{"\x80\x00\x00\x00", 0, 4, 2147483648, true},
		{"\xe2\x82\xac", 0, 1, 0xe2, true}, // bytes, not runes
		{"\xe2\x82\xac", 1, 2, 0x82ac, true},
		{"abcdef", 5, 1, 'f', true}, // the last place that has room, and the one behind it
		{"abcdef", 6, 1, 0, false},
		{"abcdef", 4, 2, 'e'<<8 | 'f', true},
		{"abcdef", 5, 2, 0, false},
		{"abcdef", 3, 3, 'd'<<16 | 'e'<<8 | 'f', true},
		{"abcdef", 4, 3, 0, false},
		{"abcdef", 2, 4, 'c'<<24 | 'd'<<16 | 'e'<<8 | 'f', true},
		{"abcdef", 3, 4, 0, false},
		{"abc", 0, 4, 0, false}, // longer than the whole
		{"", 0, 1, 0, false},
		{"", 0, 0, 0, false},
		{"abcdef", 0, 0, 0, false}, // sizes that are none
		{"abcdef", 0, -1, 0, false},
		{"abcdef", 0, 5, 0, false},
		{"abcdef", 0, math.MinInt64, 0, false},
		{"abcdef", 0, math.MaxInt64, 0, false},
		{"abcdef", -1, 1, 0, false}, // places that are none
		{"abcdef", -1, 2, 0, false},
		{"abcdef", 7, 1, 0, false},
		{"abcdef", math.MinInt64, 4, 0, false},
		{"abcdef", math.MaxInt64, 1, 0, false},
		{"abcdef", math.MaxInt64 - 3, 4, 0, false},
		{"abcdef", 1 << 32, 1, 0, false},
		{"abcdef", math.MaxInt64, math.MaxInt64, 0, false},
		{"abcdef", math.MinInt64, math.MinInt64, 0, false},
	} {
		if n, ok := Get(c.s, c.at, c.size); n != c.want || ok != c.ok {
			t.Errorf("Get(%q, %d, %d) = %d, %v; want %d, %v", c.s, c.at, c.size, n, ok, c.want, c.ok)
		}
	}
}

// P1.1: Put, by examples.
func TestPut(t *testing.T) {
	for _, c := range []struct {
		size, n int
		want    string
		ok      bool
	}{
		{1, 0, "\x00", true},
		{2, 0, "\x00\x00", true},
		{3, 0, "\x00\x00\x00", true},
		{4, 0, "\x00\x00\x00\x00", true},
		{1, 7, "\x07", true},
		{2, 515, "\x02\x03", true},
		{3, 66051, "\x01\x02\x03", true},
		{4, 16909060, "\x01\x02\x03\x04", true},
		{4, 1, "\x00\x00\x00\x01", true},
		{1, 255, "\xff", true}, // the greatest of each size, and one more
		{1, 256, "", false},
		{2, 65535, "\xff\xff", true},
		{2, 65536, "", false},
		{3, 16777215, "\xff\xff\xff", true},
		{3, 16777216, "", false},
		{4, 4294967295, "\xff\xff\xff\xff", true},
		{4, 4294967296, "", false},
		{1, -1, "", false}, // numbers that are none
		{2, -1, "", false},
		{3, -1, "", false},
		{4, -1, "", false},
		{4, -4294967295, "", false},
		{1, math.MinInt64, "", false},
		{4, math.MinInt64, "", false},
		{1, math.MaxInt64, "", false},
		{4, math.MaxInt64, "", false},
		{0, 0, "", false}, // sizes that are none
		{-1, 0, "", false},
		{-1, -1, "", false},
		{5, 0, "", false},
		{8, 1, "", false},
		{math.MinInt64, 0, "", false},
		{math.MaxInt64, 0, "", false},
		{math.MinInt64 + 1, 1, "", false},
	} {
		if s, ok := Put(c.size, c.n); s != c.want || ok != c.ok {
			t.Errorf("Put(%d, %d) = %q, %v; want %q, %v", c.size, c.n, s, ok, c.want, c.ok)
		}
	}
}

// P1.1: Set, by examples.
func TestSet(t *testing.T) {
	for _, c := range []struct {
		s           string
		at, size, n int
		want        string
		ok          bool
	}{
		{"abcdef", 0, 1, 'X', "Xbcdef", true},
		{"abcdef", 1, 2, 'X'<<8 | 'Y', "aXYdef", true},
		{"abcdef", 2, 3, 'X'<<16 | 'Y'<<8 | 'Z', "abXYZf", true},
		{"abcdef", 1, 4, 1, "a\x00\x00\x00\x01f", true},
		{"abcd", 0, 4, 4294967295, "\xff\xff\xff\xff", true}, // the whole
		{"a", 0, 1, 0, "\x00", true},
		{"abcdef", 1, 2, 'b'<<8 | 'c', "abcdef", true}, // as it was
		{"\xe2\x82\xac", 1, 1, 0, "\xe2\x00\xac", true},
		{"abcdef", 5, 1, 'X', "abcdeX", true}, // the last place that has room, and the one behind it
		{"abcdef", 6, 1, 'X', "", false},
		{"abcdef", 4, 2, 0, "abcd\x00\x00", true},
		{"abcdef", 5, 2, 0, "", false},
		{"abcdef", 3, 3, 0, "abc\x00\x00\x00", true},
		{"abcdef", 4, 3, 0, "", false},
		{"abcdef", 2, 4, 0, "ab\x00\x00\x00\x00", true},
		{"abcdef", 3, 4, 0, "", false},
		{"", 0, 1, 0, "", false},
		{"abcdef", -1, 1, 0, "", false}, // places that are none
		{"abcdef", math.MinInt64, 1, 0, "", false},
		{"abcdef", math.MaxInt64, 1, 0, "", false},
		{"abcdef", math.MaxInt64 - 3, 4, 0, "", false},
		{"abcdef", 0, 0, 0, "", false}, // sizes that are none
		{"abcdef", 0, 5, 0, "", false},
		{"abcdef", 0, -1, 0, "", false},
		{"abcdef", 0, math.MinInt64, 0, "", false},
		{"abcdef", 0, math.MaxInt64, 0, "", false},
		{"abcdef", 0, 1, 255, "\xffbcdef", true}, // the greatest of each size, and one more
		{"abcdef", 0, 1, 256, "", false},
		{"abcdef", 0, 2, 65535, "\xff\xffcdef", true},
		{"abcdef", 0, 2, 65536, "", false},
		{"abcdef", 0, 3, 16777215, "\xff\xff\xffdef", true},
		{"abcdef", 0, 3, 16777216, "", false},
		{"abcdef", 0, 4, 4294967295, "\xff\xff\xff\xffef", true},
		{"abcdef", 0, 4, 4294967296, "", false},
		{"abcdef", 0, 1, -1, "", false}, // numbers that are none
		{"abcdef", 0, 4, math.MinInt64, "", false},
		{"abcdef", 0, 4, math.MaxInt64, "", false},
	} {
		if s, ok := Set(c.s, c.at, c.size, c.n); s != c.want || ok != c.ok {
			t.Errorf("Set(%q, %d, %d, %d) = %q, %v; want %q, %v", c.s, c.at, c.size, c.n, s, ok, c.want, c.ok)
		}
	}
}

// P1.1, with P1, P2, P4 and P6 of the rules: at all edges each call ends, twice alike, with nothing beside a false.
func TestEdges(t *testing.T) {
	for _, size := range edges {
		for _, n := range edges {
			checkPut(t, size, n)
			for _, s := range texts {
				checkGet(t, s, n, size)
				for _, at := range edges {
					checkSet(t, s, at, size, n)
				}
			}
		}
	}
}

func checkGet(t *testing.T, s string, at, size int) {
	t.Helper()
	want, wantOK := getPlain(s, at, size)
	for range 2 {
		if n, ok := Get(s, at, size); n != want || ok != wantOK {
			t.Errorf("Get(%q, %d, %d) = %d, %v; want %d, %v", s, at, size, n, ok, want, wantOK)
		}
	}
}

func checkPut(t *testing.T, size, n int) {
	t.Helper()
	want, wantOK := putPlain(size, n)
	for range 2 {
		if s, ok := Put(size, n); s != want || ok != wantOK {
			t.Errorf("Put(%d, %d) = %q, %v; want %q, %v", size, n, s, ok, want, wantOK)
		}
	}
}

func checkSet(t *testing.T, s string, at, size, n int) {
	t.Helper()
	want, wantOK := setPlain(s, at, size, n)
	for range 2 {
		if out, ok := Set(s, at, size, n); out != want || ok != wantOK {
			t.Errorf("Set(%q, %d, %d, %d) = %q, %v; want %q, %v", s, at, size, n, out, ok, want, wantOK)
		}
	}
}

// P1.2: Words, in order, of an even and an odd text.
func TestWords(t *testing.T) {
	for _, c := range []struct {
		s    string
		want []int
	}{
		{"", nil},
		{"\x00", []int{0}},
		{"\x01", []int{256}},
		{"\xff", []int{65280}},
		{"\x01\x02", []int{258}},
		{"\xff\xff", []int{65535}},
		{"\x00\x00\x00", []int{0, 0}},
		{"\x01\x02\x03", []int{258, 768}},
		{"\x00\x01\xff\xff\x05", []int{1, 65535, 1280}},
		{"\x00\x01\xf2\x03\xf4\xf5\xf6\xf7", []int{0x0001, 0xf203, 0xf4f5, 0xf6f7}},
		{"\xe2\x82\xac", []int{0xe282, 0xac00}}, // bytes, not runes
	} {
		if l := slices.Collect(Words(c.s)); !slices.Equal(l, c.want) {
			t.Errorf("Words(%q) = %v; want %v", c.s, l, c.want)
		}
	}
}

// P1.2: a long text has all its words, whether its length is even or odd.
func TestWordsLong(t *testing.T) {
	var b strings.Builder
	for i := range 1501 {
		b.WriteByte(byte(i * 7))
	}
	for size := range b.Len() + 1 {
		s := b.String()[:size]
		at := 0
		for w := range Words(s) {
			want, ok := getPlain(s+"\x00", at, 2)
			if !ok || w != want {
				t.Fatalf("size %d: word at %d is %d; want %d, %v", size, at, w, want, ok)
			}
			at += 2
		}
		if at != size+size%2 {
			t.Fatalf("size %d: left off at %d", size, at)
		}
	}
}

// P1.2: Words may be left at any word, and gone through again, and by two at once.
func TestWordsAgain(t *testing.T) {
	for _, s := range texts {
		words := Words(s)
		want := slices.Collect(Words(s))
		for stop := 1; stop <= len(want); stop++ {
			var got []int
			for w := range words {
				got = append(got, w)
				if len(got) == stop {
					break
				}
			}
			if !slices.Equal(got, want[:stop]) {
				t.Errorf("Words(%q) left after %d: %v; want %v", s, stop, got, want[:stop])
			}
			if l := slices.Collect(words); !slices.Equal(l, want) {
				t.Errorf("Words(%q) again after %d: %v; want %v", s, stop, l, want)
			}
		}
		for range words {
			if l := slices.Collect(words); !slices.Equal(l, want) {
				t.Errorf("Words(%q) inside itself: %v; want %v", s, l, want)
			}
		}
	}
}

// P1.2: who has said no is not asked again, whichever word it was at (the odd byte's too).
func TestWordsStops(t *testing.T) {
	for _, s := range texts {
		for stop := 1; stop <= (len(s)+1)/2; stop++ {
			asked := 0
			Words(s)(func(int) bool {
				asked++
				return asked < stop
			})
			if asked != stop {
				t.Errorf("Words(%q): asked %d times; want %d", s, asked, stop)
			}
		}
	}
}

// P1.3: what was set is got; all else stays.
func TestSetThenGet(t *testing.T) {
	numbers := []int{0, 1, 127, 128, 255, 256, 65535, 65536, 0x010203, 16777215, 16777216, 0x01020304, 1 << 31, 4294967295}
	for _, s := range texts {
		for size := 1; size <= 4; size++ {
			for at := 0; at+size <= len(s); at++ {
				for _, n := range numbers {
					if n <= greatest[size] {
						checkSetThenGet(t, s, at, size, n)
					}
				}
			}
		}
	}
}

func checkSetThenGet(t *testing.T, s string, at, size, n int) {
	t.Helper()
	out, ok := Set(s, at, size, n)
	if !ok || len(out) != len(s) {
		t.Fatalf("Set(%q, %d, %d, %d) = %q, %v", s, at, size, n, out, ok)
	}
	if got, ok := Get(out, at, size); got != n || !ok {
		t.Errorf("Get of Set(%q, %d, %d, %d) = %d, %v", s, at, size, n, got, ok)
	}
	if put, ok := Put(size, n); !ok || out[at:at+size] != put {
		t.Errorf("Set(%q, %d, %d, %d) has %q there; Put is %q, %v", s, at, size, n, out[at:at+size], put, ok)
	}
	if out[:at] != s[:at] || out[at+size:] != s[at+size:] {
		t.Errorf("Set(%q, %d, %d, %d) = %q: what is beside it is another one", s, at, size, n, out)
	}
	old, _ := Get(s, at, size)
	if back, ok := Set(out, at, size, old); back != s || !ok {
		t.Errorf("Set(%q, %d, %d, %d) set back = %q, %v; want %q", s, at, size, n, back, ok, s)
	}
}

// P3 of the rules: nothing that is handed in is written into, nor what is around it, and an answer shares none of it.
func TestNewMemory(t *testing.T) {
	const kept = "<<abcdefg>>"
	for size := 1; size <= 4; size++ {
		for at := 0; at+size <= 7; at++ {
			room := []byte(kept)
			s := unsafe.String(&room[2], 7)
			out, ok := Set(s, at, size, 1)
			Get(s, at, size)
			for range Words(s) {
			}
			if string(room) != kept {
				t.Fatalf("Set at %d, %d: what was handed in is now %q", at, size, room)
			}
			clear(room)
			if want, _ := setPlain("abcdefg", at, size, 1); out != want || !ok {
				t.Errorf("Set at %d, %d shares what was handed in: %q", at, size, out)
			}
		}
	}
}
