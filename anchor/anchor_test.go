package anchor

import (
	"iter"
	"math"
	"math/rand/v2"
	"slices"
	"sync"
	"testing"

	"weighbridge/api"
	"weighbridge/sip"
)

// wrong are numbers that no bucket has, and no room is.
var wrong = []int{
	math.MinInt64, math.MinInt64 + 1, math.MinInt32 - 1, math.MinInt32, -65537, -65536, -65535, -256, -2, -1,
	65537, 65538, 131071, 131072, 131073, math.MaxInt32, math.MaxInt32 + 1, 1<<32 - 1, 1 << 32, 1<<32 + 1, 1 << 40, 1 << 62, math.MaxInt64 - 1, math.MaxInt64,
}

// few are keys from 0 on, at the greatest one, and between.
var few = []uint64{0, 1, 2, 3, 77, 65535, 1 << 32, 1 << 63, math.MaxUint64 - 1, math.MaxUint64}

// many are the few, some more at each bit, and the numbers up to a thousand.
var many = manyKeys()

func manyKeys() []uint64 {
	l := slices.Clone(few)
	for bit := range 64 {
		l = append(l, 1<<bit, 1<<bit-1, -(1 << bit))
	}
	for k := range uint64(1000) {
		l = append(l, k)
	}
	return l
}

// words says the chapter over again, word by word.
type words struct {
	r, n       int
	a, w, l, k map[int]int
	stack      []int
}

func newWords(room, working int) *words {
	m := &words{r: room, n: working, a: map[int]int{}, w: map[int]int{}, l: map[int]int{}, k: map[int]int{}}
	for b := 0; b < room; b++ {
		m.w[b], m.l[b], m.k[b] = b, b, b
	}
	for b := 0; b < working; b++ {
		m.a[b] = 0
	}
	for b := room - 1; b >= working; b-- {
		m.a[b] = b
		m.stack = append(m.stack, b)
	}
	return m
}

func (m *words) bucket(k uint64) int {
	b := int(sip.Mix(k, uint64(m.r)) % uint64(m.r))
	for m.a[b] > 0 {
		h := int(sip.Mix(k, uint64(b)) % uint64(m.a[b]))
		for !(m.a[h] < m.a[b]) {
			h = m.k[h]
		}
		b = h
	}
	return b
}

func (m *words) remove(b int) api.Errno {
	a, there := m.a[b]
	if !there || a != 0 {
		return api.ErrNone
	}
	if m.n == 1 {
		return api.ErrState
	}
	m.stack = append(m.stack, b)
	m.n = m.n - 1
	m.a[b] = m.n
	w := m.w[m.n]
	m.w[m.l[b]] = w
	m.k[b] = w
	m.l[w] = m.l[b]
	return api.OK
}

func (m *words) add() (int, api.Errno) {
	if len(m.stack) == 0 {
		return 0, api.ErrFull
	}
	b := m.stack[len(m.stack)-1]
	m.stack = m.stack[:len(m.stack)-1]
	m.a[b] = 0
	m.l[m.w[m.n]] = m.n
	m.w[m.l[b]] = b
	m.k[b] = b
	m.n = m.n + 1
	return b, api.OK
}

func (m *words) working() []int {
	l := []int{}
	for b := 0; b < m.r; b++ {
		if m.a[b] == 0 {
			l = append(l, b)
		}
	}
	return l
}

// whole says the chapter over again in another way, which AnchorHash makes shorter: whoever goes keeps the whole list of those that stay behind, each at its place, and of those that were there ahead.
type whole struct {
	room  int
	order []int
	gone  []*left
}

type left struct {
	bucket        int
	ahead, behind []int
}

func newWhole(room, working int) *whole {
	m := &whole{room: room}
	for b := range room {
		m.order = append(m.order, b)
	}
	for len(m.order) > working {
		m.remove(len(m.order) - 1)
	}
	return m
}

func (m *whole) find(b int) *left {
	for _, x := range m.gone {
		if x.bucket == b {
			return x
		}
	}
	return nil
}

func (m *whole) bucket(k uint64) int {
	b := int(sip.Mix(k, uint64(m.room)) % uint64(m.room))
	for x := m.find(b); x != nil; x = m.find(b) {
		b = x.behind[sip.Mix(k, uint64(b))%uint64(len(x.behind))]
	}
	return b
}

func (m *whole) remove(b int) api.Errno {
	at := slices.Index(m.order, b)
	if at < 0 {
		return api.ErrNone
	}
	if len(m.order) == 1 {
		return api.ErrState
	}
	ahead := slices.Clone(m.order)
	m.order[at] = m.order[len(m.order)-1]
	m.order = m.order[:len(m.order)-1]
	m.gone = append(m.gone, &left{b, ahead, slices.Clone(m.order)})
	return api.OK
}

func (m *whole) add() (int, api.Errno) {
	if len(m.gone) == 0 {
		return 0, api.ErrFull
	}
	x := m.gone[len(m.gone)-1]
	m.gone = m.gone[:len(m.gone)-1]
	m.order = slices.Clone(x.ahead)
	return x.bucket, api.OK
}

// made is New where it may not fail.
func made(t *testing.T, room, working int) *Anchor {
	t.Helper()
	a, e := New(room, working)
	if a == nil || e != api.OK {
		t.Fatalf("New(%d, %d) = %v, %d", room, working, a != nil, e)
	}
	return a
}

// removed is Remove of each where it may not fail.
func removed(t *testing.T, a *Anchor, l ...int) {
	t.Helper()
	for _, b := range l {
		if e := a.Remove(b); e != api.OK {
			t.Fatalf("Remove(%d) = %d", b, e)
		}
	}
}

// added is Add where it may not fail, and tells just these.
func added(t *testing.T, a *Anchor, l ...int) {
	t.Helper()
	for _, want := range l {
		if b, e := a.Add(); b != want || e != api.OK {
			t.Fatalf("Add() = %d, %d; want %d", b, e, want)
		}
	}
}

// told is what Bucket answers of each key.
func told(a *Anchor, keys []uint64) []int {
	l := make([]int, len(keys))
	for i, k := range keys {
		l[i] = a.Bucket(k)
	}
	return l
}

// upTo is the numbers from first on up to ahead of end.
func upTo(first, end int) []int {
	l := []int{}
	for b := first; b < end; b++ {
		l = append(l, b)
	}
	return l
}

// works holds that just these work, by Len and by Working.
func works(t *testing.T, a *Anchor, want []int) {
	t.Helper()
	got := slices.Collect(a.Working())
	if len(got) < 30 && !slices.Equal(got, want) {
		t.Fatalf("there work %v; want %v", got, want)
	}
	if a.Len() != len(want) || !slices.Equal(got, want) {
		t.Fatalf("there work %d, of which %d are handed on; want %d", a.Len(), len(got), len(want))
	}
}

// rig is an anchor, and the two that say it over again; the second one, which is big, may be left out.
type rig struct {
	a *Anchor
	m *words
	w *whole
}

func newRig(t *testing.T, room, working int, both bool) *rig {
	t.Helper()
	x := &rig{a: made(t, room, working), m: newWords(room, working)}
	if both {
		x.w = newWhole(room, working)
	}
	return x
}

func (x *rig) remove(t *testing.T, b int) {
	t.Helper()
	want := x.m.remove(b)
	if got := x.a.Remove(b); got != want {
		t.Fatalf("Remove(%d) = %d; want %d", b, got, want)
	}
	if x.w != nil {
		if e := x.w.remove(b); e != want {
			t.Fatalf("said over again in another way, Remove(%d) = %d; want %d", b, e, want)
		}
	}
}

func (x *rig) add(t *testing.T) {
	t.Helper()
	want, right := x.m.add()
	if got, e := x.a.Add(); got != want || e != right {
		t.Fatalf("Add() = %d, %d; want %d, %d", got, e, want, right)
	}
	if x.w != nil {
		if b, e := x.w.add(); b != want || e != right {
			t.Fatalf("said over again in another way, Add() = %d, %d; want %d, %d", b, e, want, right)
		}
	}
}

// do removes the bucket that has this number, or adds one where it is the room.
func (x *rig) do(t *testing.T, what int) {
	t.Helper()
	if what == x.m.r {
		x.add(t)
		return
	}
	x.remove(t, what)
}

// look holds all that the anchor answers against what is said over again.
func (x *rig) look(t *testing.T, keys []uint64) {
	t.Helper()
	works(t, x.a, x.m.working())
	for _, k := range keys {
		want := x.m.bucket(k)
		if got := x.a.Bucket(k); got != want {
			t.Fatalf("Bucket(%#x) = %d; want %d", k, got, want)
		}
		if x.w == nil {
			continue
		}
		if b := x.w.bucket(k); b != want {
			t.Fatalf("said over again in another way, Bucket(%#x) = %d; want %d", k, b, want)
		}
	}
}

// P12.2: the chapter's own example.
func TestChapter(t *testing.T) {
	a, e := New(1, 1)
	if e != api.OK || a.Bucket(5) != 0 {
		t.Errorf("New(1, 1) = %d", e)
	}
}

// P12.1: a room that may not be, and as many that work as may not; nothing is made.
func TestNewWrong(t *testing.T) {
	refused := func(room, working int) {
		t.Helper()
		if a, e := New(room, working); a != nil || e != api.ErrArg {
			t.Errorf("New(%d, %d) = %v, %d", room, working, a != nil, e)
		}
	}
	for _, n := range append(wrong, 0) {
		for _, other := range append(wrong, 0, 1, 2, 255, 256, 65535, 65536, n, n-1, n+1) {
			refused(n, other) // whatever works
			refused(other, n) // however much room there is
		}
	}
	for _, room := range []int{1, 2, 3, 7, 8, 255, 256, 257, 32768, 65535, 65536} {
		for _, working := range []int{room + 1, room + 2, 2 * room, room + 65536, room + 1<<32, room * -1, 0} {
			refused(room, working)
		}
	}
}

// P12.1: at first the first ones work, and Len and Working say so; the others wait.
func TestNew(t *testing.T) {
	for _, room := range []int{1, 2, 3, 4, 8, 9, 255, 256, 257, 4096, 65535, 65536} {
		for _, working := range []int{1, 2, 3, room / 2, room - 2, room - 1, room} {
			if working < 1 || working > room {
				continue
			}
			a := made(t, room, working)
			works(t, a, upTo(0, working))
			for _, b := range []int{-1, room, working, room - 1, room + 1} {
				if b < 0 || b >= working {
					if e := a.Remove(b); e != api.ErrNone {
						t.Errorf("of New(%d, %d), Remove(%d) = %d", room, working, b, e)
					}
				}
			}
			for _, k := range many {
				if b := a.Bucket(k); b < 0 || b >= working {
					t.Fatalf("of New(%d, %d), Bucket(%#x) = %d", room, working, k, b)
				}
			}
			added(t, a, upTo(working, room)...)
			works(t, a, upTo(0, room))
		}
	}
}

// P12.2: what another program, which goes by whole lists, made of the few keys.
func TestBucketKnown(t *testing.T) {
	for _, c := range []struct {
		room, working int
		gone          []int
		back          int
		want          []int
	}{
		{1, 1, nil, 0, []int{0, 0, 0, 0, 0, 0, 0, 0, 0, 0}},
		{2, 2, nil, 0, []int{1, 0, 1, 1, 0, 0, 1, 0, 1, 1}},
		{2, 2, []int{0}, 0, []int{1, 1, 1, 1, 1, 1, 1, 1, 1, 1}},
		{8, 8, nil, 0, []int{3, 0, 7, 2, 1, 2, 1, 0, 1, 4}},
		{8, 8, []int{7, 6}, 0, []int{3, 0, 5, 2, 1, 2, 1, 0, 1, 4}}, // the last ones gone
		{8, 6, nil, 0, []int{3, 0, 5, 2, 1, 2, 1, 0, 1, 4}},         // as if they had gone
		{8, 6, []int{0}, 0, []int{3, 5, 5, 2, 1, 2, 1, 5, 1, 4}},
		{8, 8, []int{2, 5, 3}, 0, []int{4, 0, 7, 6, 1, 4, 1, 0, 1, 4}}, // some in the middle gone
		{8, 8, []int{2, 5, 3}, 1, []int{3, 0, 7, 6, 1, 4, 1, 0, 1, 4}}, // one is back
		{8, 8, []int{2, 5, 3}, 3, []int{3, 0, 7, 2, 1, 2, 1, 0, 1, 4}}, // all are
		{8, 8, []int{3, 0, 7, 1, 6, 2, 4}, 0, []int{5, 5, 5, 5, 5, 5, 5, 5, 5, 5}},
		{8, 1, nil, 0, []int{0, 0, 0, 0, 0, 0, 0, 0, 0, 0}},
		{10, 10, []int{4, 9, 0}, 0, []int{1, 7, 8, 2, 5, 5, 5, 6, 2, 8}},
		{65535, 65534, nil, 0, []int{29450, 22634, 36537, 47866, 45780, 54652, 36803, 56787, 6545, 59945}},
		{65536, 65536, nil, 0, []int{31234, 46020, 14824, 54084, 40678, 50206, 59, 26707, 62581, 39477}},
		{65536, 65536, []int{31234, 46020, 59, 65535, 0}, 0, []int{61111, 14029, 14824, 54084, 40678, 50206, 52885, 26707, 62581, 39477}},
		{65536, 6, nil, 0, []int{1, 3, 5, 2, 5, 2, 0, 3, 1, 3}},
	} {
		a := made(t, c.room, c.working)
		removed(t, a, c.gone...)
		for range c.back {
			a.Add()
		}
		if got := told(a, few); !slices.Equal(got, c.want) {
			t.Errorf("of New(%d, %d), with %v gone, of which %d are back: %v; want %v", c.room, c.working, c.gone, c.back, got, c.want)
		}
	}
}

// P12.2: with all working a key goes where it is mixed to with the room; a bucket that is gone sends it on, by its own number.
func TestBucketSteps(t *testing.T) {
	for _, room := range []int{1, 2, 3, 7, 8, 64, 1000, 65535, 65536} {
		a := made(t, room, room)
		for _, k := range many {
			if got, want := a.Bucket(k), int(sip.Mix(k, uint64(room))%uint64(room)); got != want {
				t.Fatalf("of a room of %d, Bucket(%#x) = %d; want %d", room, k, got, want)
			}
		}
		if room == 1 {
			continue
		}
		last := room - 1
		removed(t, a, last)
		for _, k := range many {
			want := int(sip.Mix(k, uint64(room)) % uint64(room))
			if want == last {
				want = int(sip.Mix(k, uint64(last)) % uint64(last))
			}
			if got := a.Bucket(k); got != want {
				t.Fatalf("of a room of %d without its last one, Bucket(%#x) = %d; want %d", room, k, got, want)
			}
		}
		added(t, a, last)
		removed(t, a, 0)
		for _, k := range many {
			want := int(sip.Mix(k, uint64(room)) % uint64(room))
			if want == 0 {
				want = int(sip.Mix(k, 0) % uint64(last))
				if want == 0 {
					want = last
				}
			}
			if got := a.Bucket(k); got != want {
				t.Fatalf("of a room of %d without its first one, Bucket(%#x) = %d; want %d", room, k, got, want)
			}
		}
	}
}

// P12.2: with one that works, whichever it is, all keys go there.
func TestBucketOne(t *testing.T) {
	for _, room := range []int{1, 2, 3, 8, 33} {
		for one := range room {
			for _, order := range [][]int{upTo(0, room), backward(upTo(0, room)), append(upTo(room/2, room), upTo(0, room/2)...)} {
				a := made(t, room, room)
				for _, b := range order {
					if b != one {
						removed(t, a, b)
					}
				}
				works(t, a, []int{one})
				for _, k := range many {
					if b := a.Bucket(k); b != one {
						t.Fatalf("of a room of %d, of which %d works, Bucket(%#x) = %d", room, one, k, b)
					}
				}
			}
		}
	}
}

// backward is l, the last one first.
func backward(l []int) []int {
	b := slices.Clone(l)
	slices.Reverse(b)
	return b
}

// P12.3: ErrNone of what is no bucket, and of what does not work; ErrState of the last one that does.
func TestRemoveWrong(t *testing.T) {
	for _, c := range [][2]int{{1, 1}, {2, 1}, {2, 2}, {8, 1}, {8, 6}, {8, 8}, {65536, 1}, {65536, 65535}, {65536, 65536}} {
		room, working := c[0], c[1]
		a := made(t, room, working)
		want := told(a, few)
		none := append(slices.Clone(wrong), room, room+1, 2*room, -room, room-65537, room+1<<32, room-1-1<<32)
		if working < room {
			none = append(none, working, room-1)
		}
		for _, b := range none {
			if e := a.Remove(b); e != api.ErrNone {
				t.Errorf("of New(%d, %d), Remove(%d) = %d", room, working, b, e)
			}
		}
		if working == 1 {
			if e := a.Remove(0); e != api.ErrState {
				t.Errorf("of New(%d, 1), Remove(0) = %d", room, e)
			}
		}
		works(t, a, upTo(0, working))
		if got := told(a, few); !slices.Equal(got, want) {
			t.Errorf("of New(%d, %d), behind errors: %v; want %v", room, working, got, want)
		}
	}
}

// P12.3: one that is removed twice; the last one that works, whichever it is, but another one that does not.
func TestRemoveTwice(t *testing.T) {
	a := made(t, 5, 5)
	for i, b := range []int{2, 0, 4, 1} {
		removed(t, a, b)
		for _, again := range []int{2, 0, 4, 1}[:i+1] {
			if e := a.Remove(again); e != api.ErrNone {
				t.Errorf("Remove(%d), which is gone, = %d", again, e)
			}
		}
	}
	for range 3 {
		if e := a.Remove(3); e != api.ErrState {
			t.Errorf("Remove(3), which alone works, = %d", e)
		}
		for _, b := range []int{0, 1, 2, 4, 5, -1} {
			if e := a.Remove(b); e != api.ErrNone {
				t.Errorf("Remove(%d), while 3 alone works, = %d", b, e)
			}
		}
	}
	works(t, a, []int{3})
	added(t, a, 1) // the errors put nothing on the stack
	removed(t, a, 3)
	if e := a.Remove(1); e != api.ErrState {
		t.Errorf("Remove(1), which alone works now, = %d", e)
	}
	added(t, a, 3, 4, 0, 2)
	works(t, a, upTo(0, 5))
}

// P12.3: Add where all work, from the beginning on, and again.
func TestAddFull(t *testing.T) {
	for _, room := range []int{1, 2, 8, 65536} {
		for _, working := range []int{1, room/2 + 1, room} {
			if working > room {
				continue
			}
			a := made(t, room, working)
			added(t, a, upTo(working, room)...)
			want := told(a, few)
			for range 3 {
				if b, e := a.Add(); b != 0 || e != api.ErrFull {
					t.Errorf("of a room of %d, which is full, Add() = %d, %d", room, b, e)
				}
			}
			works(t, a, upTo(0, room))
			if got := told(a, few); !slices.Equal(got, want) {
				t.Errorf("of a room of %d, behind ErrFull: %v; want %v", room, got, want)
			}
			if room > 1 {
				removed(t, a, 0)
				added(t, a, 0)
				if b, e := a.Add(); b != 0 || e != api.ErrFull {
					t.Errorf("of a room of %d, which is full again, Add() = %d, %d", room, b, e)
				}
			}
		}
	}
}

// P12.3: the last one that went comes back first, ahead of those that did not work at first, of which the first one comes first.
func TestAddOrder(t *testing.T) {
	a := made(t, 8, 5)
	removed(t, a, 1, 4, 0)
	works(t, a, []int{2, 3})
	added(t, a, 0, 4)
	works(t, a, []int{0, 2, 3, 4})
	removed(t, a, 2)
	added(t, a, 2, 1, 5)
	removed(t, a, 0, 5)
	added(t, a, 5, 0, 6, 7)
	works(t, a, upTo(0, 8))
	for _, room := range []int{2, 9, 300} {
		for _, order := range [][]int{upTo(0, room-1), upTo(1, room), backward(upTo(0, room-1)), backward(upTo(1, room))} {
			a := made(t, room, room)
			removed(t, a, order...)
			added(t, a, backward(order)...)
			works(t, a, upTo(0, room))
		}
	}
}

// P12.1: those that work, rising, each once, also where some in the middle, at the beginning and at the end are gone.
func TestWorking(t *testing.T) {
	for _, c := range []struct {
		room, working int
		gone, want    []int
	}{
		{1, 1, nil, []int{0}},
		{8, 8, []int{7, 0, 3}, []int{1, 2, 4, 5, 6}},
		{8, 8, []int{0, 1, 2, 3, 4, 5, 6}, []int{7}},
		{8, 8, []int{7, 6, 5, 4, 3, 2, 1}, []int{0}},
		{8, 6, []int{5, 1}, []int{0, 2, 3, 4}},
		{65536, 65536, []int{65535, 0, 32768}, append(upTo(1, 32768), upTo(32769, 65535)...)},
	} {
		a := made(t, c.room, c.working)
		removed(t, a, c.gone...)
		works(t, a, c.want)
	}
}

// P12.1 and P6 of the rules: Working is left at any time, gone through again, and within itself.
func TestWorkingLeft(t *testing.T) {
	a := made(t, 9, 8)
	removed(t, a, 3, 0, 7)
	want := []int{1, 2, 4, 5, 6}
	all := a.Working()
	for end := range len(want) + 1 {
		var got []int
		for b := range all {
			if len(got) == end {
				break
			}
			got = append(got, b)
		}
		if !slices.Equal(got, want[:end]) {
			t.Errorf("left behind %d: %v", end, got)
		}
		calls := 0
		all(func(int) bool { calls++; return calls <= end })
		if calls != min(end+1, len(want)) {
			t.Errorf("left behind %d, it is called %d times", end, calls)
		}
	}
	for range 3 {
		if got := slices.Collect(all); !slices.Equal(got, want) {
			t.Errorf("gone through again: %v", got)
		}
	}
	var pairs []int
	for outer := range all {
		for inner := range all {
			pairs = append(pairs, 10*outer+inner)
			if inner > outer {
				break
			}
		}
	}
	if !slices.Equal(pairs, []int{11, 12, 21, 22, 24, 41, 42, 44, 45, 51, 52, 54, 55, 56, 61, 62, 64, 65, 66}) {
		t.Errorf("within itself: %v", pairs)
	}
	one, stopOne := iter.Pull(all)
	two, stopTwo := iter.Pull(a.Working())
	for _, b := range want {
		x, _ := one()
		y, _ := two()
		if x != b || y != b {
			t.Errorf("side by side: %d and %d; want %d", x, y, b)
		}
	}
	stopOne()
	stopTwo()
	works(t, a, want)
	added(t, a, 7, 0, 3, 8) // nothing is changed by going through
}

// P12.1 to P12.3: all that can be done with a small room, up to a number of times, errors too, against the chapter said over again, in both ways.
func TestAllSmall(t *testing.T) {
	for room := 1; room <= 5; room++ {
		times := []int{0, 6, 8, 7, 6, 5}[room]
		for working := 1; working <= room; working++ {
			done := make([]int, 0, times)
			var deeper func()
			deeper = func() {
				x := newRig(t, room, working, true)
				for _, what := range done {
					x.do(t, what)
				}
				x.look(t, few)
				if len(done) == times {
					return
				}
				for what := range room + 1 {
					done = append(done, what)
					deeper()
					done = done[:len(done)-1]
				}
			}
			deeper()
		}
	}
}

// P12.1 to P12.3: long histories of many rooms, with wrong numbers between.
func TestMany(t *testing.T) {
	r := rand.New(rand.NewPCG(12, 2026))
	for range 300 {
		room := 1 + r.IntN(1+r.IntN(60))
		x := newRig(t, room, 1+r.IntN(room), true)
		downward := r.IntN(10)
		for range 60 {
			switch n := r.IntN(11); {
			case n == 10:
				x.remove(t, wrong[r.IntN(len(wrong))])
				x.remove(t, room)
			case n < downward:
				x.remove(t, r.IntN(room))
			default:
				x.add(t)
			}
			x.look(t, few)
			x.look(t, []uint64{r.Uint64(), r.Uint64(), r.Uint64() >> 32, r.Uint64() >> 48})
		}
		x.look(t, many)
	}
}

// P12.1 to P12.3: rooms as great as they may be, down to one that works and up again.
func TestGreat(t *testing.T) {
	r := rand.New(rand.NewPCG(13, 2026))
	for _, c := range [][2]int{{65536, 65536}, {65536, 1}, {65536, 40000}, {65535, 65535}} {
		room, working := c[0], c[1]
		x := newRig(t, room, working, false)
		x.look(t, many)
		for _, stay := range []int{working - working/7, 300, 1} {
			order := x.m.working()
			r.Shuffle(len(order), func(i, j int) { order[i], order[j] = order[j], order[i] })
			for _, b := range order[min(stay, len(order)):] {
				x.remove(t, b)
			}
			x.remove(t, -1)
			x.remove(t, room)
			x.look(t, many)
			for range (room - x.m.n) / 3 {
				x.add(t)
			}
			x.look(t, many)
		}
		for x.m.n < room {
			x.add(t)
		}
		x.add(t)
		x.look(t, many)
	}
}

// P1 of the rules: Bucket ends soon enough also where those that went each took the place of the one ahead.
func TestLongWay(t *testing.T) {
	x := newRig(t, 65536, 65536, false)
	x.remove(t, 0)
	for b := 65535; b > 1; b-- {
		x.remove(t, b)
	}
	works(t, x.a, []int{1})
	x.look(t, few)
	for range 30000 {
		x.add(t)
	}
	x.look(t, few)
}

// moved holds P12.4 of one that is removed and added again.
func moved(t *testing.T, a *Anchor, b int, keys []uint64) {
	t.Helper()
	ahead := told(a, keys)
	list := slices.Collect(a.Working())
	removed(t, a, b)
	behind := told(a, keys)
	for i, k := range keys {
		if behind[i] == b || ahead[i] != b && behind[i] != ahead[i] || !slices.Contains(list, behind[i]) {
			t.Fatalf("where %d is removed, Bucket(%#x), which was %d, is %d", b, k, ahead[i], behind[i])
		}
	}
	added(t, a, b)
	if got := told(a, keys); !slices.Equal(got, ahead) {
		t.Fatalf("where %d is added again, other keys are told others", b)
	}
	works(t, a, list)
}

// P12.4: of one, while none, some and nearly all others are gone.
func TestMoved(t *testing.T) {
	for _, room := range []int{2, 3, 8, 20} {
		for _, order := range [][]int{upTo(0, room), backward(upTo(0, room)), append(upTo(room/3, room), upTo(0, room/3)...)} {
			a := made(t, room, room)
			for a.Len() > 1 {
				for b := range room {
					if slices.Contains(slices.Collect(a.Working()), b) {
						moved(t, a, b, many)
					}
				}
				removed(t, a, order[0])
				order = order[1:]
			}
		}
	}
	a := made(t, 8, 5)
	for b := range 5 {
		moved(t, a, b, many)
	}
	removed(t, a, 4, 1)
	for _, b := range []int{0, 2, 3} {
		moved(t, a, b, many)
	}
	great := made(t, 65536, 65536)
	for _, k := range few {
		moved(t, great, great.Bucket(k), many)
	}
}

// P12.4: several are removed, and all of them are added again, some of them a few times.
func TestMovedSeveral(t *testing.T) {
	r := rand.New(rand.NewPCG(14, 2026))
	for range 200 {
		room := 2 + r.IntN(40)
		a := made(t, room, 1+r.IntN(room))
		var rows [][]int
		var lists [][]int
		for steps := 0; steps < 60; steps++ {
			if r.IntN(3) > 0 && a.Len() > 1 {
				list := slices.Collect(a.Working())
				rows, lists = append(rows, told(a, many[:200])), append(lists, list)
				removed(t, a, list[r.IntN(len(list))])
			} else if len(rows) > 0 {
				a.Add()
				top := len(rows) - 1
				if !slices.Equal(told(a, many[:200]), rows[top]) {
					t.Fatal("where one is added again, other keys are told others")
				}
				works(t, a, lists[top])
				rows, lists = rows[:top], lists[:top]
			}
		}
		for top := len(rows) - 1; top >= 0; top-- {
			a.Add()
		}
		if len(rows) > 0 && !slices.Equal(told(a, many[:200]), rows[0]) {
			t.Fatal("where all are added again, keys are told others")
		}
	}
}

// P12.4: each bucket that is told works, and each one that works is told.
func TestToldWorks(t *testing.T) {
	a := made(t, 16, 12)
	for _, b := range []int{0, 11, 5, 6, 3, 1} {
		removed(t, a, b)
		list := slices.Collect(a.Working())
		seen := map[int]int{}
		for _, k := range many {
			seen[a.Bucket(k)]++
		}
		for b := range seen {
			if !slices.Contains(list, b) {
				t.Errorf("%d is told, while there work %v", b, list)
			}
		}
		if len(seen) != len(list) {
			t.Errorf("there work %v, and are told %v", list, seen)
		}
	}
}

// P2 of the rules: behind each error all is as it was: those that work, where keys go, and who comes back.
func TestErrorsChangeNothing(t *testing.T) {
	x := newRig(t, 7, 5, true)
	clean := newRig(t, 7, 5, true)
	for _, what := range []int{3, 7, 3, 0, 4, 1, 7, 7, 7, 7, 7, 2, 6, 7, 7} {
		for _, b := range append(slices.Clone(wrong), 7, 8) {
			x.remove(t, b)
		}
		for b := range 7 {
			if !slices.Contains(x.m.working(), b) || x.m.n == 1 {
				x.remove(t, b)
			}
		}
		if x.m.n == 7 {
			x.add(t)
		}
		x.look(t, many)
		x.do(t, what)
		clean.do(t, what)
		if !slices.Equal(told(x.a, many), told(clean.a, many)) {
			t.Fatal("behind errors, keys are told others")
		}
	}
	for x.m.n < 7 {
		x.add(t)
	}
	x.look(t, many)
}

// history is what is done to an anchor by a rule, and all that it answers meanwhile.
func history(room, working int) []int {
	a, e := New(room, working)
	answers := []int{int(e)}
	for i := range 100 {
		answers = append(answers, int(a.Remove(i*7%(room+2)-1)))
		if i%3 == 0 {
			b, e := a.Add()
			answers = append(answers, b, int(e))
		}
		answers = append(answers, a.Len())
		answers = append(answers, told(a, few)...)
		answers = append(answers, slices.Collect(a.Working())...)
	}
	return answers
}

// P4 of the rules: another anchor that was made so and to which the same was done answers the same, also beside others, and at the same time.
func TestSameAgain(t *testing.T) {
	rooms := [][2]int{{1, 1}, {2, 1}, {8, 8}, {20, 13}, {300, 299}}
	var first [][]int
	for _, c := range rooms {
		first = append(first, history(c[0], c[1]))
	}
	var group sync.WaitGroup
	for range 4 {
		for i, c := range rooms {
			group.Go(func() {
				if !slices.Equal(history(c[0], c[1]), first[i]) {
					t.Errorf("New(%d, %d), done to the same again, answers others", c[0], c[1])
				}
			})
		}
	}
	group.Wait()
}

// P3 and P4 of the rules: two anchors share nothing, and to be asked changes nothing.
func TestApart(t *testing.T) {
	a, b := made(t, 8, 6), made(t, 8, 6)
	want := told(a, many)
	removed(t, b, 0, 3, 5)
	added(t, b, 5)
	for range 3 {
		works(t, a, upTo(0, 6))
		if !slices.Equal(told(a, many), want) {
			t.Error("where another one is changed, keys are told others")
		}
	}
	added(t, a, 6, 7)
	works(t, b, []int{1, 2, 4, 5})
}
