package pool

import (
	"iter"
	"maps"
	"math"
	"math/rand/v2"
	"slices"
	"sync"
	"testing"
	"unsafe"

	"weighbridge/api"
	"weighbridge/sip"
)

// Keys: the numbers from 0 on, digits, the greatest bytes, and zeros.
const (
	count  = "\x00\x01\x02\x03\x04\x05\x06\x07\x08\x09\x0a\x0b\x0c\x0d\x0e\x0f"
	digits = "0123456789abcdef"
	ones   = "\xff\xff\xff\xff\xff\xff\xff\xff\xff\xff\xff\xff\xff\xff\xff\xff"
	zeros  = "\x00\x00\x00\x00\x00\x00\x00\x00\x00\x00\x00\x00\x00\x00\x00\x00"
)

// wrong are numbers that no room is, no backend has, and no port is.
var wrong = []int{
	math.MinInt64, math.MinInt64 + 1, math.MinInt32 - 1, math.MinInt32, -65537, -65536, -65535, -256, -2, -1,
	65537, 65538, 131071, 131072, 131073, math.MaxInt32, math.MaxInt32 + 1, 1<<32 - 1, 1 << 32, 1<<32 + 1, 1 << 40, 1 << 62, math.MaxInt64 - 1, math.MaxInt64,
}

// few are tuples that differ in one number each, and some others.
var few = []api.Tuple{
	{},
	{Proto: 6, Src: 0x0a000001, Dst: 0x0a0000fe, SrcPort: 40000, DstPort: 80},
	{Proto: 6, Src: 0x0a000002, Dst: 0x0a0000fe, SrcPort: 40000, DstPort: 80},
	{Proto: 6, Src: 0x0a000001, Dst: 0x0a0000fe, SrcPort: 40001, DstPort: 80},
	{Proto: 17, Src: 0x0a000001, Dst: 0x0a0000fe, SrcPort: 40000, DstPort: 80},
	{Proto: 6, Src: 0x0a000001, Dst: 0x0a0000fd, SrcPort: 40000, DstPort: 80},
	{Proto: 6, Src: 0x0a000001, Dst: 0x0a0000fe, SrcPort: 40000, DstPort: 81},
	{Proto: 1, Src: 0xc0a80001, Dst: 0x08080808, SrcPort: 1, DstPort: 2},
	{Proto: 6, Src: 0x0a0000fe, Dst: 0x0a000001, SrcPort: 80, DstPort: 40000},
	{Proto: 255, Src: 0xffffffff, Dst: 0xffffffff, SrcPort: 65535, DstPort: 65535},
}

// many are the few, and some hundreds more.
var many = manyTuples(400)

func manyTuples(n int) []api.Tuple {
	l := slices.Clone(few)
	for i := range n {
		l = append(l, api.Tuple{Proto: i % 256, Src: uint32(i * 0x01010101), Dst: uint32(i * i), SrcPort: i * 163 % 65536, DstPort: 65535 - i})
	}
	return l
}

// keyless are tuples without a Key.
var keyless = keylessTuples()

func keylessTuples() []api.Tuple {
	l := []api.Tuple{{Proto: 256}, {Proto: 257}, {Proto: 65535}, {Proto: 65536}, {SrcPort: 65536}, {DstPort: 65536}}
	for _, n := range wrong {
		l = append(l, api.Tuple{Proto: n}, api.Tuple{SrcPort: n}, api.Tuple{DstPort: n}, api.Tuple{Proto: n, SrcPort: n, DstPort: n},
			api.Tuple{Proto: 6, Src: 1, Dst: 2, SrcPort: n, DstPort: 80}, api.Tuple{Proto: 6, Src: 1, Dst: 2, SrcPort: 80, DstPort: n})
	}
	return l
}

// as is the backend of this ID that all tests have.
func as(id int) api.Backend {
	return api.Backend{ID: id, Addr: uint32(id) * 0x01000193, Port: id * 7 % 65536}
}

// entry is what All hands on.
type entry struct {
	b     api.Backend
	state int
}

// words says the chapter over again: the backends stand in a list, as they came, and whoever gives a bucket up keeps the whole list of those that stay behind.
type words struct {
	room  int
	key   string
	list  []entry
	of    []int // the bucket of each in the list, where it is active
	order []int // the buckets that work, each at its place
	gone  []*left
}

type left struct {
	bucket        int
	ahead, behind []int
}

func newWords(room int, key string) *words {
	m := &words{room: room, key: key, order: upTo(0, room)}
	for len(m.order) > 1 {
		m.take(len(m.order) - 1)
	}
	return m
}

// take is the anchor's Remove.
func (m *words) take(b int) {
	at := slices.Index(m.order, b)
	ahead := slices.Clone(m.order)
	m.order[at] = m.order[len(m.order)-1]
	m.order = m.order[:len(m.order)-1]
	m.gone = append(m.gone, &left{b, ahead, slices.Clone(m.order)})
}

// put is the anchor's Add.
func (m *words) put() int {
	x := m.gone[len(m.gone)-1]
	m.gone = m.gone[:len(m.gone)-1]
	m.order = slices.Clone(x.ahead)
	return x.bucket
}

// bucket is the anchor's Bucket.
func (m *words) bucket(k uint64) int {
	b := int(sip.Mix(k, uint64(m.room)) % uint64(m.room))
	for !slices.Contains(m.order, b) {
		x := m.gone[slices.IndexFunc(m.gone, func(x *left) bool { return x.bucket == b })]
		b = x.behind[sip.Mix(k, uint64(b))%uint64(len(x.behind))]
	}
	return b
}

func (m *words) find(id int) int {
	return slices.IndexFunc(m.list, func(x entry) bool { return x.b.ID == id })
}

func (m *words) active() int {
	n := 0
	for _, x := range m.list {
		if x.state == 1 {
			n++
		}
	}
	return n
}

func (m *words) add(b api.Backend) api.Errno {
	switch {
	case b.ID < 1 || b.ID > 65535 || b.Port < 0 || b.Port > 65535:
		return api.ErrArg
	case m.find(b.ID) >= 0:
		return api.ErrExists
	case m.active() == m.room:
		return api.ErrFull
	case m.active() == 0:
		m.of = append(m.of, m.order[0])
	default:
		m.of = append(m.of, m.put())
	}
	m.list = append(m.list, entry{b, 1})
	return api.OK
}

func (m *words) drain(id int) api.Errno {
	at := m.find(id)
	if at < 0 {
		return api.ErrNone
	}
	if m.list[at].state != 1 {
		return api.ErrState
	}
	if m.active() > 1 {
		m.take(m.of[at])
	}
	m.list[at].state, m.of[at] = 2, -1
	return api.OK
}

func (m *words) remove(id int) api.Errno {
	at := m.find(id)
	if at < 0 {
		return api.ErrNone
	}
	m.drain(id)
	m.list, m.of = slices.Delete(m.list, at, at+1), slices.Delete(m.of, at, at+1)
	return api.OK
}

func (m *words) all() []entry {
	l := slices.Clone(m.list)
	slices.SortFunc(l, func(a, b entry) int { return a.b.ID - b.b.ID })
	return l
}

func (m *words) choose(t api.Tuple) (api.Backend, bool) {
	if m.active() == 0 || t.Proto < 0 || t.Proto > 255 || t.SrcPort < 0 || t.SrcPort > 65535 || t.DstPort < 0 || t.DstPort > 65535 {
		return api.Backend{}, false
	}
	var name []byte
	for _, part := range [][2]int{{1, t.Proto}, {4, int(t.Src)}, {4, int(t.Dst)}, {2, t.SrcPort}, {2, t.DstPort}} {
		for at := part[0] - 1; at >= 0; at-- {
			name = append(name, byte(part[1]>>(8*at)))
		}
	}
	sum, _ := sip.Hash(m.key, string(name))
	return m.list[slices.Index(m.of, m.bucket(sum))].b, true
}

// upTo is the numbers from first on up to ahead of end.
func upTo(first, end int) []int {
	l := []int{}
	for n := first; n < end; n++ {
		l = append(l, n)
	}
	return l
}

// backward is l, the last one first.
func backward(l []int) []int {
	b := slices.Clone(l)
	slices.Reverse(b)
	return b
}

// made is New where it may not fail, and Add of these.
func made(t *testing.T, room int, key string, ids ...int) *Pool {
	t.Helper()
	p, e := New(room, key)
	if p == nil || e != api.OK {
		t.Fatalf("New(%d, %q) = %v, %d", room, key, p != nil, e)
	}
	added(t, p, ids...)
	return p
}

// added is Add of each where it may not fail.
func added(t *testing.T, p *Pool, ids ...int) {
	t.Helper()
	for _, id := range ids {
		if e := p.Add(as(id)); e != api.OK {
			t.Fatalf("Add(%d) = %d", id, e)
		}
	}
}

// drained is Drain of each where it may not fail.
func drained(t *testing.T, p *Pool, ids ...int) {
	t.Helper()
	for _, id := range ids {
		if e := p.Drain(id); e != api.OK {
			t.Fatalf("Drain(%d) = %d", id, e)
		}
	}
}

// removed is Remove of each where it may not fail.
func removed(t *testing.T, p *Pool, ids ...int) {
	t.Helper()
	for _, id := range ids {
		if e := p.Remove(id); e != api.OK {
			t.Fatalf("Remove(%d) = %d", id, e)
		}
	}
}

// listed is what All hands on.
func listed(p *Pool) []entry {
	l := []entry{}
	for b, state := range p.All() {
		l = append(l, entry{b, state})
	}
	return l
}

// chosen is the ID that Choose tells of each tuple; 0 where it says no.
func chosen(t *testing.T, p *Pool, tuples []api.Tuple) []int {
	t.Helper()
	l := make([]int, len(tuples))
	for i, x := range tuples {
		b, ok := p.Choose(x)
		if ok != (b.ID != 0) || b.ID == 0 && b != (api.Backend{}) {
			t.Fatalf("Choose(%v) = %v, %v", x, b, ok)
		}
		l[i] = b.ID
	}
	return l
}

// stands holds that just these are there, by All, Get and Active: active ones and draining ones, each rising.
func stands(t *testing.T, p *Pool, active, draining []int) {
	t.Helper()
	want := []entry{}
	for _, id := range active {
		want = append(want, entry{as(id), Active})
	}
	for _, id := range draining {
		want = append(want, entry{as(id), Draining})
	}
	slices.SortFunc(want, func(a, b entry) int { return a.b.ID - b.b.ID })
	got := listed(p)
	if !slices.Equal(got, want) {
		if len(got)+len(want) < 60 {
			t.Fatalf("there are %v; want %v", got, want)
		}
		t.Fatalf("there are %d, others than the %d that there are to be", len(got), len(want))
	}
	if p.Active() != len(active) {
		t.Fatalf("Active() = %d; want %d", p.Active(), len(active))
	}
	for _, x := range want {
		if b, state, e := p.Get(x.b.ID); b != x.b || state != x.state || e != api.OK {
			t.Fatalf("Get(%d) = %v, %d, %d; want %v", x.b.ID, b, state, e, x)
		}
	}
}

// absent holds that Get tells of none of these.
func absent(t *testing.T, p *Pool, ids ...int) {
	t.Helper()
	for _, id := range ids {
		if b, state, e := p.Get(id); b != (api.Backend{}) || state != 0 || e != api.ErrNone {
			t.Fatalf("Get(%d), who is none, = %v, %d, %d", id, b, state, e)
		}
	}
}

// rig is a pool, and what says it over again.
type rig struct {
	p *Pool
	m *words
}

func newRig(t *testing.T, room int, key string) *rig {
	t.Helper()
	return &rig{made(t, room, key), newWords(room, key)}
}

func (x *rig) add(t *testing.T, b api.Backend) {
	t.Helper()
	want := x.m.add(b)
	if e := x.p.Add(b); e != want {
		t.Fatalf("Add(%v) = %d; want %d", b, e, want)
	}
}

func (x *rig) drain(t *testing.T, id int) {
	t.Helper()
	want := x.m.drain(id)
	if e := x.p.Drain(id); e != want {
		t.Fatalf("Drain(%d) = %d; want %d", id, e, want)
	}
}

func (x *rig) remove(t *testing.T, id int) {
	t.Helper()
	want := x.m.remove(id)
	if e := x.p.Remove(id); e != want {
		t.Fatalf("Remove(%d) = %d; want %d", id, e, want)
	}
}

// do is one of the three, for this ID.
func (x *rig) do(t *testing.T, what, id int) {
	t.Helper()
	switch what {
	case 0:
		x.add(t, as(id))
	case 1:
		x.drain(t, id)
	case 2:
		x.remove(t, id)
	}
}

// look holds all that the pool answers against what is said over again.
func (x *rig) look(t *testing.T, tuples []api.Tuple) {
	t.Helper()
	want := x.m.all()
	if got := listed(x.p); !slices.Equal(got, want) {
		t.Fatalf("there are %v; want %v", got, want)
	}
	if got := x.p.Active(); got != x.m.active() {
		t.Fatalf("Active() = %d; want %d", got, x.m.active())
	}
	for _, w := range want {
		if b, state, e := x.p.Get(w.b.ID); b != w.b || state != w.state || e != api.OK {
			t.Fatalf("Get(%d) = %v, %d, %d; want %v", w.b.ID, b, state, e, w)
		}
	}
	for _, tuple := range tuples {
		want, right := x.m.choose(tuple)
		if b, ok := x.p.Choose(tuple); b != want || ok != right {
			t.Fatalf("Choose(%v) = %v, %v; want %v, %v; there are %v", tuple, b, ok, want, right, x.m.list)
		}
	}
}

// P13.2: the chapter's own example.
func TestChapter(t *testing.T) {
	p, e := New(8, digits)
	if e != api.OK {
		t.Fatal(e)
	}
	for _, x := range many {
		if b, ok := p.Choose(x); ok || b != (api.Backend{}) {
			t.Errorf("without any, Choose(%v) = %v, %v", x, b, ok)
		}
	}
	if Active != 1 || Draining != 2 {
		t.Error("the states are", Active, Draining)
	}
}

// P13.1: a room or a key that may not be; nothing is made.
func TestNewWrong(t *testing.T) {
	refused := func(room int, key string) {
		t.Helper()
		if p, e := New(room, key); p != nil || e != api.ErrArg {
			t.Errorf("New(%d, %q) = %v, %d", room, key, p != nil, e)
		}
	}
	bad := []string{"", "x", digits[:8], digits[:15], zeros[:15], digits + "g", zeros + "\x00", digits + digits, string(make([]byte, 256+16)), string(make([]byte, 65536+16))}
	for _, room := range append(wrong, 0) {
		for _, key := range append(bad, digits, zeros) {
			refused(room, key)
		}
	}
	for _, room := range []int{1, 2, 8, 255, 256, 65535, 65536} {
		for _, key := range bad {
			refused(room, key)
		}
	}
}

// P13.1: at first nobody is there; a key may be any bytes; as many as there is room for come in.
func TestNew(t *testing.T) {
	for _, room := range []int{1, 2, 3, 255, 256, 257, 65534, 65535, 65536} {
		for _, key := range []string{count, digits, ones, zeros, "ää" + digits[:8] + "\xff\xfe\x00\n"} {
			p := made(t, room, key)
			stands(t, p, nil, nil)
			absent(t, p, 0, 1, 2, 65535, 65536, -1)
			if e := p.Drain(1); e != api.ErrNone {
				t.Errorf("of a new one, Drain(1) = %d", e)
			}
			if e := p.Remove(1); e != api.ErrNone {
				t.Errorf("of a new one, Remove(1) = %d", e)
			}
			if room > 257 {
				continue
			}
			added(t, p, upTo(1, room+1)...)
			stands(t, p, upTo(1, room+1), nil)
			if e := p.Add(as(room + 1)); e != api.ErrFull {
				t.Errorf("with all the room of %d taken, Add = %d", room, e)
			}
		}
	}
}

// P13.1: the edges of an ID and of a Port; ErrArg is told ahead of ErrExists and of ErrFull.
func TestAddWrong(t *testing.T) {
	for _, b := range []api.Backend{{ID: 1}, {ID: 65535}, {ID: 1, Port: 65535}, {ID: 65535, Addr: math.MaxUint32, Port: 65535}, {ID: 2, Port: 1}} {
		p := made(t, 3, digits)
		if e := p.Add(b); e != api.OK {
			t.Errorf("Add(%v) = %d", b, e)
		}
		if got, state, e := p.Get(b.ID); got != b || state != Active || e != api.OK {
			t.Errorf("Get(%d) = %v, %d, %d; want %v", b.ID, got, state, e, b)
		}
		if got, ok := p.Choose(few[1]); got != b || !ok {
			t.Errorf("with %v alone, Choose = %v, %v", b, got, ok)
		}
	}
	pools := []*Pool{made(t, 3, digits), made(t, 3, digits, 1, 2), made(t, 2, digits, 1, 2), made(t, 1, digits, 65535), made(t, 3, digits, 1, 2)}
	drained(t, pools[4], 2, 1)
	for i, p := range pools {
		want, who := listed(p), chosen(t, p, many)
		for _, id := range append(wrong, 0, 65536) {
			for _, port := range []int{0, 80, 65535, -1, 65536, id} {
				if e := p.Add(api.Backend{ID: id, Port: port}); e != api.ErrArg {
					t.Errorf("%d: Add of the ID %d and the Port %d = %d", i, id, port, e)
				}
			}
			absent(t, p, id)
		}
		for _, port := range append(wrong, 65536) {
			for _, id := range []int{1, 2, 3, 65535, 65536, 0} {
				if e := p.Add(api.Backend{ID: id, Port: port}); e != api.ErrArg {
					t.Errorf("%d: Add of the ID %d and the Port %d = %d", i, id, port, e)
				}
			}
		}
		if !slices.Equal(listed(p), want) || !slices.Equal(chosen(t, p, many), who) {
			t.Errorf("%d: behind ErrArg others are there, or chosen", i)
		}
	}
}

// P13.1: ErrExists of who is active and of who drains, whatever else the backend has, with room and without.
func TestAddExists(t *testing.T) {
	for _, room := range []int{3, 4, 65536} {
		p := made(t, room, digits, 5, 9, 7)
		drained(t, p, 9)
		added(t, p, 65535) // of a room of 3 there is none left
		want, who := listed(p), chosen(t, p, many)
		for _, id := range []int{5, 7, 9, 65535} {
			for _, b := range []api.Backend{as(id), {ID: id}, {ID: id, Addr: math.MaxUint32, Port: 65535}} {
				if e := p.Add(b); e != api.ErrExists {
					t.Errorf("of a room of %d, Add(%v), who is there, = %d", room, b, e)
				}
			}
			for _, port := range []int{-1, 65536} {
				if e := p.Add(api.Backend{ID: id, Port: port}); e != api.ErrArg {
					t.Errorf("of a room of %d, Add of the ID %d, who is there, and the Port %d = %d", room, id, port, e)
				}
			}
		}
		if !slices.Equal(listed(p), want) || !slices.Equal(chosen(t, p, many), who) {
			t.Errorf("of a room of %d, behind ErrExists others are there, or chosen", room)
		}
		removed(t, p, 9)
		if e := p.Add(as(9)); (e == api.ErrFull) != (room == 3) || (e == api.OK) != (room != 3) {
			t.Errorf("of a room of %d, Add of one who is gone = %d", room, e)
		}
	}
}

// full holds that no other one has room, and that all is as it was.
func full(t *testing.T, p *Pool, others ...int) {
	t.Helper()
	want, who := listed(p), chosen(t, p, few)
	for _, id := range others {
		if e := p.Add(as(id)); e != api.ErrFull {
			t.Fatalf("with %d active, Add(%d) = %d", p.Active(), id, e)
		}
		absent(t, p, id)
	}
	if !slices.Equal(listed(p), want) || !slices.Equal(chosen(t, p, few), who) {
		t.Fatalf("with %d active, behind ErrFull others are there, or chosen", p.Active())
	}
}

// P13.1: ErrFull of one more than there is room; those that drain take none.
func TestAddFull(t *testing.T) {
	for _, room := range []int{1, 2, 3, 8, 300} {
		p := made(t, room, digits, upTo(1, room+1)...)
		full(t, p, room+1, 65535)
		drained(t, p, room)
		added(t, p, room+1)
		stands(t, p, append(upTo(1, room), room+1), []int{room})
		full(t, p, room+2, 65535)
		removed(t, p, room) // who drains gives no room
		full(t, p, room, room+2)
		removed(t, p, room+1)
		added(t, p, room)
		full(t, p, room+1, 65535)
		stands(t, p, upTo(1, room+1), nil)
	}
	one := made(t, 1, digits, 1)
	for id := 2; id <= 300; id++ {
		full(t, one, id)
		drained(t, one, id-1)
		added(t, one, id)
	}
	full(t, one, 301)
	stands(t, one, []int{300}, upTo(1, 300))
}

// P13.1: a great room is taken whole, and as many as there are IDs come in.
func TestGreatRoom(t *testing.T) {
	p := made(t, 65534, digits, upTo(1, 65535)...)
	full(t, p, 65535)
	drained(t, p, 1, 65534, 300)
	added(t, p, 65535)
	stands(t, p, append(append(upTo(2, 300), upTo(301, 65534)...), 65535), []int{1, 300, 65534})
	removed(t, p, 1, 300)
	added(t, p, 300, 1)
	full(t, p)
	if e := p.Add(as(65534)); e != api.ErrExists {
		t.Errorf("Add(65534), who drains, = %d", e)
	}
	for _, room := range []int{65535, 65536} {
		p := made(t, room, count, backward(upTo(1, 65536))...)
		stands(t, p, upTo(1, 65536), nil)
		for _, id := range []int{0, 65536} {
			if e := p.Add(as(id)); e != api.ErrArg {
				t.Errorf("Add(%d) = %d", id, e)
			}
		}
		seen := map[int]int{}
		for _, id := range chosen(t, p, many) {
			seen[id]++
		}
		if len(seen) < 350 {
			t.Errorf("of a room of %d, of %d there are chosen %d", room, len(many), len(seen))
		}
		drained(t, p, upTo(1, 65535)...)
		stands(t, p, []int{65535}, upTo(1, 65535))
		for _, id := range chosen(t, p, many) {
			if id != 65535 {
				t.Fatalf("while 65535 alone is active, %d is chosen", id)
			}
		}
		removed(t, p, 65535)
		stands(t, p, nil, upTo(1, 65535))
	}
}

// P13.1: Drain of who is none, of who drains already, and of who is gone.
func TestDrainWrong(t *testing.T) {
	for _, ids := range [][]int{nil, {5}, {5, 9, 7}, {1, 65535}} {
		p := made(t, 8, digits, ids...)
		who := chosen(t, p, many)
		for _, id := range append(wrong, 0, 2, 65534, 65536, 5+65536, 5+1<<32) {
			if e := p.Drain(id); e != api.ErrNone {
				t.Errorf("with %v, Drain(%d) = %d", ids, id, e)
			}
		}
		stands(t, p, slices.Sorted(slices.Values(ids)), nil)
		if !slices.Equal(chosen(t, p, many), who) {
			t.Errorf("with %v, behind ErrNone others are chosen", ids)
		}
	}
	p := made(t, 8, digits, 5, 9, 7)
	drained(t, p, 9)
	who := chosen(t, p, many)
	for range 3 {
		if e := p.Drain(9); e != api.ErrState {
			t.Errorf("Drain(9), who drains, = %d", e)
		}
	}
	stands(t, p, []int{5, 7}, []int{9})
	if !slices.Equal(chosen(t, p, many), who) {
		t.Error("behind ErrState others are chosen")
	}
	drained(t, p, 5, 7)
	for _, id := range []int{5, 7, 9} {
		if e := p.Drain(id); e != api.ErrState {
			t.Errorf("with all drained, Drain(%d) = %d", id, e)
		}
	}
	removed(t, p, 9, 5, 7)
	for _, id := range []int{5, 7, 9} {
		if e := p.Drain(id); e != api.ErrNone {
			t.Errorf("Drain(%d), who is gone, = %d", id, e)
		}
	}
	stands(t, p, nil, nil)
}

// P13.1: Drain of one of several, and of the only one; it is there, and drains.
func TestDrain(t *testing.T) {
	p := made(t, 8, digits, 5, 9, 7)
	drained(t, p, 7)
	stands(t, p, []int{5, 9}, []int{7})
	drained(t, p, 5)
	stands(t, p, []int{9}, []int{5, 7})
	drained(t, p, 9)
	stands(t, p, nil, []int{5, 7, 9})
	for _, id := range chosen(t, p, many) {
		if id != 0 {
			t.Fatalf("with all drained, %d is chosen", id)
		}
	}
	added(t, p, 6)
	stands(t, p, []int{6}, []int{5, 7, 9})
	only := made(t, 1, digits, 65535)
	drained(t, only, 65535)
	stands(t, only, nil, []int{65535})
}

// P13.1: Remove of who is none, and of one twice.
func TestRemoveWrong(t *testing.T) {
	for _, ids := range [][]int{nil, {5}, {5, 9, 7}, {1, 65535}} {
		p := made(t, 8, digits, ids...)
		who := chosen(t, p, many)
		for _, id := range append(wrong, 0, 2, 65534, 65536, 5+65536, 5+1<<32) {
			if e := p.Remove(id); e != api.ErrNone {
				t.Errorf("with %v, Remove(%d) = %d", ids, id, e)
			}
		}
		stands(t, p, slices.Sorted(slices.Values(ids)), nil)
		if !slices.Equal(chosen(t, p, many), who) {
			t.Errorf("with %v, behind ErrNone others are chosen", ids)
		}
	}
	p := made(t, 8, digits, 5, 9, 7, 3)
	drained(t, p, 9)
	for i, id := range []int{7, 9, 3, 5} { // the last one but one, who drains, others, the only one
		removed(t, p, id)
		who := chosen(t, p, many)
		for range 2 {
			if e := p.Remove(id); e != api.ErrNone {
				t.Errorf("Remove(%d) again = %d", id, e)
			}
		}
		absent(t, p, id)
		if p.Active() != []int{2, 2, 1, 0}[i] || !slices.Equal(chosen(t, p, many), who) {
			t.Errorf("behind Remove(%d) again %d are active, or others are chosen", id, p.Active())
		}
	}
}

// P13.1: Remove of who is active, of who drains, and of the only one who is active; an ID that is gone may come again.
func TestRemove(t *testing.T) {
	p := made(t, 8, digits, 5, 9, 7, 3)
	removed(t, p, 9)
	stands(t, p, []int{3, 5, 7}, nil)
	drained(t, p, 5)
	who := chosen(t, p, many)
	removed(t, p, 5)
	stands(t, p, []int{3, 7}, nil)
	if !slices.Equal(chosen(t, p, many), who) {
		t.Error("where one goes who drained, others are chosen")
	}
	removed(t, p, 3, 7)
	stands(t, p, nil, nil)
	for _, id := range chosen(t, p, many) {
		if id != 0 {
			t.Fatalf("with all gone, %d is chosen", id)
		}
	}
	added(t, p, 7, 5)
	drained(t, p, 7)
	removed(t, p, 5) // the only one, while another one drains
	stands(t, p, nil, []int{7})
	removed(t, p, 7)
	other := api.Backend{ID: 7, Addr: 77, Port: 777}
	if e := p.Add(other); e != api.OK {
		t.Errorf("Add of one who is gone = %d", e)
	}
	if b, ok := p.Choose(few[1]); b != other || !ok {
		t.Errorf("Choose = %v, %v; want %v", b, ok, other)
	}
	if got := listed(p); !slices.Equal(got, []entry{{other, Active}}) {
		t.Errorf("there are %v", got)
	}
}

// P13.1: Get of who is active, who drains, and who is none.
func TestGet(t *testing.T) {
	p := made(t, 8, digits)
	a, b := api.Backend{ID: 1, Addr: math.MaxUint32, Port: 65535}, api.Backend{ID: 65535, Addr: 0, Port: 0}
	for _, x := range []api.Backend{b, a} {
		if e := p.Add(x); e != api.OK {
			t.Fatal(e)
		}
	}
	drained(t, p, 65535)
	for _, x := range []entry{{a, Active}, {b, Draining}} {
		for range 2 {
			if got, state, e := p.Get(x.b.ID); got != x.b || state != x.state || e != api.OK {
				t.Errorf("Get(%d) = %v, %d, %d; want %v", x.b.ID, got, state, e, x)
			}
		}
	}
	absent(t, p, wrong...)
	absent(t, p, 0, 2, 65534, 65536)
	removed(t, p, 1, 65535)
	absent(t, p, 1, 65535)
}

// P13.1: All by the IDs, rising, in whatever order they came, drained and went.
func TestAllOrder(t *testing.T) {
	ids := []int{2, 10, 255, 256, 4096, 65535}
	r := rand.New(rand.NewPCG(13, 2026))
	for range 100 {
		r.Shuffle(len(ids), func(i, j int) { ids[i], ids[j] = ids[j], ids[i] })
		p := made(t, 6, digits, ids...)
		stands(t, p, []int{2, 10, 255, 256, 4096, 65535}, nil)
		drained(t, p, ids[0])
		gone := ids[1]
		removed(t, p, gone)
		rest := slices.Sorted(slices.Values(ids[2:]))
		stands(t, p, rest, ids[:1])
		added(t, p, gone)
		stands(t, p, slices.Sorted(slices.Values(ids[1:])), ids[:1])
	}
	l := r.Perm(5000)
	p := made(t, 5000, digits)
	var active, draining []int
	for _, n := range l {
		id := n*13 + 1
		added(t, p, id)
		if n%3 == 0 {
			drained(t, p, id)
			draining = append(draining, id)
		} else {
			active = append(active, id)
		}
	}
	stands(t, p, slices.Sorted(slices.Values(active)), slices.Sorted(slices.Values(draining)))
}

// P13.1 and P6 of the rules: All is left at any time, gone through again, and within itself.
func TestAllLeft(t *testing.T) {
	p := made(t, 9, digits, 9, 3, 300, 65535, 1)
	drained(t, p, 3, 65535)
	want := []entry{{as(1), Active}, {as(3), Draining}, {as(9), Active}, {as(300), Active}, {as(65535), Draining}}
	all := p.All()
	for end := range len(want) + 1 {
		got := []entry{}
		for b, state := range all {
			if len(got) == end {
				break
			}
			got = append(got, entry{b, state})
		}
		if !slices.Equal(got, want[:end]) {
			t.Errorf("left behind %d: %v", end, got)
		}
		calls := 0
		all(func(api.Backend, int) bool { calls++; return calls <= end })
		if calls != min(end+1, len(want)) {
			t.Errorf("left behind %d, it is called %d times", end, calls)
		}
	}
	for range 3 {
		if got := listed(p); !slices.Equal(got, want) {
			t.Errorf("gone through again: %v", got)
		}
		if got := maps.Collect(all); len(got) != len(want) || got[as(3)] != Draining || got[as(9)] != Active {
			t.Errorf("gone through again: %v", got)
		}
	}
	var pairs []int
	for outer := range all {
		for inner := range all {
			pairs = append(pairs, outer.ID+inner.ID)
			if inner.ID > outer.ID {
				break
			}
		}
	}
	if !slices.Equal(pairs, []int{2, 4, 4, 6, 12, 10, 12, 18, 309, 301, 303, 309, 600, 65835, 65536, 65538, 65544, 65835, 131070}) {
		t.Errorf("within itself: %v", pairs)
	}
	one, stopOne := iter.Pull2(all)
	two, stopTwo := iter.Pull2(p.All())
	defer stopTwo()
	for _, w := range want[:3] {
		b, state, ok := one()
		c, other, more := two()
		if (entry{b, state}) != w || (entry{c, other}) != w || !ok || !more {
			t.Errorf("side by side: %v, %d, %v and %v, %d, %v; want %v", b, state, ok, c, other, more, w)
		}
	}
	stopOne()
	if b, _, ok := two(); b != as(300) || !ok {
		t.Errorf("where the other one is left: %v, %v", b, ok)
	}
	for range made(t, 1, digits).All() {
		t.Error("of a new one, somebody is handed on")
	}
}

// P13.1: Active counts who is active, and nobody else.
func TestActive(t *testing.T) {
	p := made(t, 3, digits)
	step := func(want int, e api.Errno) {
		t.Helper()
		if e != api.OK || p.Active() != want {
			t.Errorf("%d are active (%d); want %d", p.Active(), e, want)
		}
	}
	step(0, api.OK)
	step(1, p.Add(as(4)))
	step(2, p.Add(as(5)))
	step(3, p.Add(as(6)))
	step(2, p.Drain(5))
	step(3, p.Add(as(7)))
	step(3, p.Remove(5)) // who drained
	step(2, p.Remove(4))
	step(1, p.Drain(7))
	step(0, p.Drain(6))
	step(0, p.Remove(6))
	step(1, p.Add(as(6)))
	step(0, p.Remove(6))
	step(0, p.Remove(7))
}

// P13.2: what another program, which goes by whole lists, made of the few tuples: Add of each number above 0, Remove of each below.
func TestChooseKnown(t *testing.T) {
	for _, c := range []struct {
		room int
		key  string
		what []int
		want []int
	}{
		{1, count, []int{7}, []int{7, 7, 7, 7, 7, 7, 7, 7, 7, 7}},
		{2, count, []int{7, 8}, []int{8, 8, 7, 7, 7, 7, 8, 8, 7, 8}},
		{2, count, []int{7, 8, -7}, []int{8, 8, 8, 8, 8, 8, 8, 8, 8, 8}},
		{2, count, []int{7, 8, -7, 9}, []int{8, 8, 9, 9, 9, 9, 8, 8, 9, 8}},
		{2, count, []int{7, 8, -7, -8, 9}, []int{9, 9, 9, 9, 9, 9, 9, 9, 9, 9}},
		{2, count, []int{7, 8, -7, -8, 9, 5}, []int{9, 9, 5, 5, 5, 5, 9, 9, 5, 9}}, // the second bucket went on working
		{8, count, []int{1, 2, 3}, []int{1, 1, 1, 1, 2, 2, 2, 2, 2, 2}},
		{8, count, []int{3, 2, 1}, []int{3, 3, 3, 3, 2, 2, 2, 2, 2, 2}}, // it goes by who came first, not by the IDs
		{8, count, []int{1, 2, 3, -2}, []int{1, 1, 1, 1, 3, 3, 3, 3, 1, 3}},
		{8, count, []int{1, 2, 3, -2, 4}, []int{1, 1, 1, 1, 4, 4, 4, 4, 4, 4}},
		{8, count, []int{1, 2, 3, -2, 4, 5}, []int{5, 1, 1, 1, 4, 4, 4, 4, 4, 4}},
		{8, count, []int{1, 2, 3, -1, -2, -3}, []int{0, 0, 0, 0, 0, 0, 0, 0, 0, 0}},
		{8, count, []int{1, 2, 3, -1, -2, -3, 9}, []int{9, 9, 9, 9, 9, 9, 9, 9, 9, 9}},
		{8, count, []int{1, 2, 3, -1, -2, -3, 9, 8, 7}, []int{7, 7, 7, 7, 8, 8, 8, 8, 8, 8}},
		{8, count, []int{1, 2, 3, 4, 5, 6, 7, 8}, []int{4, 6, 7, 1, 6, 2, 2, 5, 8, 2}},
		{8, digits, []int{1, 2, 3, 4, 5, 6, 7, 8}, []int{2, 8, 7, 4, 7, 6, 7, 1, 6, 4}},
		{8, ones, []int{1, 2, 3, 4, 5, 6, 7, 8}, []int{5, 5, 7, 5, 6, 2, 5, 5, 3, 7}},
		{8, zeros, []int{1, 2, 3, 4, 5, 6, 7, 8}, []int{3, 8, 6, 4, 3, 5, 2, 1, 2, 3}},
		{9, count, []int{1, 2, 3, 4, 5, 6, 7, 8}, []int{2, 3, 1, 2, 5, 5, 8, 5, 7, 6}}, // the room counts
		{8, count, []int{1, 2, 3, 4, 5, 6, 7, 8, -6, -1, -4}, []int{8, 2, 7, 7, 8, 2, 2, 5, 8, 2}},
		{8, count, []int{1, 2, 3, 4, 5, 6, 7, 8, -6, -1, -4, 4, 1}, []int{4, 2, 7, 1, 4, 2, 2, 5, 8, 2}},
		{65536, count, []int{65535, 1, 300, 40000, 77}, []int{1, 40000, 300, 65535, 65535, 77, 77, 77, 77, 1}},
		{65536, count, []int{65535, 1, 300, 40000, 77, -300, -65535}, []int{1, 40000, 77, 40000, 1, 77, 77, 77, 77, 1}},
		{65535, digits, []int{65535, 1, 300, 40000, 77, -300, -65535, 2, 3, 4}, []int{2, 40000, 40000, 4, 77, 77, 3, 77, 2, 77}},
		{65536, digits, []int{65535, 1, 300, 40000, 77, -300, -65535, 2, 3, 4}, []int{4, 40000, 4, 2, 77, 4, 77, 4, 40000, 77}},
	} {
		gone, drains := made(t, c.room, c.key), made(t, c.room, c.key)
		for _, id := range c.what {
			if id > 0 {
				added(t, gone, id)
				removeIfThere(drains, id)
				added(t, drains, id)
				continue
			}
			removed(t, gone, -id)
			drained(t, drains, -id)
		}
		for i, p := range []*Pool{gone, drains} {
			if got := chosen(t, p, few); !slices.Equal(got, c.want) {
				t.Errorf("%d: of a room of %d, behind %v: %v; want %v", i, c.room, c.what, got, c.want)
			}
		}
	}
}

// removeIfThere lets who drains make room for its own ID.
func removeIfThere(p *Pool, id int) {
	if _, _, e := p.Get(id); e == api.OK {
		p.Remove(id)
	}
}

// P13.2: of a tuple without a Key nobody is chosen, however many are active; of the greatest and the least numbers of a Key somebody is.
func TestChooseKeyless(t *testing.T) {
	for _, ids := range [][]int{nil, {1}, {1, 2}, {1, 2, 3, 4, 5, 6, 7, 8}} {
		p := made(t, 8, digits, ids...)
		for _, x := range keyless {
			if b, ok := p.Choose(x); ok || b != (api.Backend{}) {
				t.Errorf("with %v, Choose(%v) = %v, %v", ids, x, b, ok)
			}
		}
		for _, proto := range []int{0, 1, 6, 17, 255} {
			for _, port := range []int{0, 1, 65535} {
				for _, x := range []api.Tuple{{Proto: proto, SrcPort: port}, {Proto: proto, DstPort: port}} {
					if _, ok := p.Choose(x); ok != (len(ids) > 0) {
						t.Errorf("with %v, Choose(%v) says %v", ids, x, ok)
					}
				}
			}
		}
	}
}

// P13.2: nobody with none active, with all drained, with all gone; the one who is active; each one of several.
func TestChoose(t *testing.T) {
	p := made(t, 8, digits)
	share := func(want ...int) {
		t.Helper()
		seen := map[int]int{}
		for _, id := range chosen(t, p, many) {
			seen[id]++
		}
		if got := slices.Sorted(maps.Keys(seen)); !slices.Equal(got, want) {
			t.Errorf("there are chosen %v; want %v", got, want)
		}
	}
	share(0)
	added(t, p, 300)
	share(300)
	added(t, p, 20)
	share(20, 300)
	added(t, p, 1, 65535)
	share(1, 20, 300, 65535)
	drained(t, p, 20, 300)
	share(1, 65535)
	removed(t, p, 20)
	share(1, 65535)
	drained(t, p, 1)
	share(65535)
	drained(t, p, 65535)
	share(0)
	removed(t, p, 1, 65535)
	share(0)
	added(t, p, 1, 2, 3, 4, 5, 6, 7, 8)
	share(1, 2, 3, 4, 5, 6, 7, 8)
	for _, x := range many {
		b, _ := p.Choose(x)
		if got, state, _ := p.Get(b.ID); got != b || state != Active {
			t.Errorf("Choose(%v) = %v, of which Get tells %v, %d", x, b, got, state)
		}
	}
}

// leaves are the two ways in which one is chosen no more.
var leaves = []func(*Pool, int) api.Errno{(*Pool).Drain, (*Pool).Remove}

// moved lets one go, and holds that just its tuples go elsewhere; then that they are all told who comes next, and others stay. In the end the one who went is there again, and the one who came is not.
func moved(t *testing.T, p *Pool, id, next int) {
	t.Helper()
	for _, leave := range leaves {
		was := chosen(t, p, many)
		if e := leave(p, id); e != api.OK {
			t.Fatalf("%d does not go: %d", id, e)
		}
		for i, now := range chosen(t, p, many) {
			if now == id || (now == 0) != (p.Active() == 0) {
				t.Fatalf("behind %d, which goes, %v is told %d", id, many[i], now)
			}
			if was[i] != id && now != was[i] {
				t.Fatalf("where %d goes, %v is told %d, no more %d", id, many[i], now, was[i])
			}
		}
		removeIfThere(p, id)
		added(t, p, next)
		for i, now := range chosen(t, p, many) {
			if want := was[i]; now != want && (want != id || now != next) {
				t.Fatalf("where %d comes for %d, %v is told %d; it was %d", next, id, many[i], now, want)
			}
		}
		id, next = next, id
	}
}

// P13.3: where one goes, just those are chosen anew who were to go to it; who comes next gets just those.
func TestMoved(t *testing.T) {
	for _, room := range []int{1, 2, 3, 8, 20, 65536} {
		for n := 1; n <= min(room, 20); n++ {
			p := made(t, room, digits, upTo(101, 101+n)...)
			for id := 101; id < 101+n; id++ {
				moved(t, p, id, 7)
				moved(t, p, id, 60000)
			}
			stands(t, p, upTo(101, 101+n), nil)
		}
	}
}

// P13.3: several go, one behind the other, until nobody is left; those who come take their places, the last one's first, and all are told what they were.
func TestMovedSeveral(t *testing.T) {
	for _, room := range []int{5, 6, 300, 65536} {
		for _, order := range [][]int{{1, 2, 3, 4, 5}, {5, 4, 3, 2, 1}, {3, 1, 5, 2, 4}, {2, 5, 3, 4, 1}} {
			for i, leave := range leaves {
				p := made(t, room, count, 1, 2, 3, 4, 5)
				was := [][]int{chosen(t, p, many)}
				for _, id := range order {
					if e := leave(p, id); e != api.OK {
						t.Fatal(id, e)
					}
					was = append(was, chosen(t, p, many))
				}
				if slices.Max(was[5]) != 0 || slices.Min(was[4]) != order[4] || slices.Max(was[4]) != order[4] {
					t.Fatalf("of a room of %d, behind %v: %v", room, order, was)
				}
				heir := map[int]int{}
				for at := 4; at >= 0; at-- {
					came := 100 + at
					added(t, p, came)
					heir[order[at]] = came
					want := slices.Clone(was[at])
					for j, id := range want {
						want[j] = heir[id]
					}
					if !slices.Equal(chosen(t, p, many), want) {
						t.Fatalf("%d: of a room of %d, behind %v, where %d comes others are told than at first", i, room, order, came)
					}
				}
			}
		}
	}
}

// P13.3: who comes as one more takes tuples from others, but moves none between them.
func TestMovedMore(t *testing.T) {
	for _, room := range []int{30, 65536} {
		p := made(t, room, ones, 1)
		for id := 2; id <= 30; id++ {
			was := chosen(t, p, many)
			added(t, p, id)
			took := 0
			for i, now := range chosen(t, p, many) {
				if now == id {
					took++
				} else if now != was[i] {
					t.Fatalf("where %d comes, %v is told %d, no more %d", id, many[i], now, was[i])
				}
			}
			if took == 0 {
				t.Errorf("of a room of %d, nobody is told %d", room, id)
			}
		}
	}
}

// All that can be done in up to a few calls to a small pool.
func TestSmall(t *testing.T) {
	const ids, most = 3, 5
	kinds := 3 * ids
	for _, room := range []int{1, 2, 3, 4} {
		total := 1
		for calls := range most + 1 {
			for n := range total {
				x := newRig(t, room, digits)
				code := n
				for range calls {
					x.do(t, code%kinds%3, 1+code%kinds/3)
					code /= kinds
				}
				x.look(t, few[:4])
			}
			total *= kinds
		}
	}
}

// What is done by chance.
func TestRandom(t *testing.T) {
	r := rand.New(rand.NewPCG(2026, 13))
	for range 300 {
		room := 1 + r.IntN(12)
		if r.IntN(10) == 0 {
			room = 1 + r.IntN(400)
		}
		x := newRig(t, room, string(binaryKey(r)))
		ids := 1 + r.IntN(2*room)
		for range 120 {
			what := r.IntN(5) // more come than go
			if what > 2 {
				what = 0
			}
			x.do(t, what, 1+r.IntN(ids)*(65535/ids))
			if r.IntN(6) == 0 {
				x.look(t, many[:30])
			}
		}
		x.look(t, many)
		for range 300 { // more go than come
			x.do(t, min(r.IntN(5), 2), 1+r.IntN(ids)*(65535/ids))
		}
		x.look(t, many)
	}
}

// binaryKey is a key of any bytes.
func binaryKey(r *rand.Rand) []byte {
	b := make([]byte, 16)
	for i := range b {
		b[i] = byte(r.IntN(256))
	}
	return b
}

// P2 of the rules: behind each error all is as it was: who is there, who is chosen, and who gets which bucket later on.
func TestErrorsChangeNothing(t *testing.T) {
	x, clean := newRig(t, 3, digits), newRig(t, 3, digits)
	for _, step := range [][2]int{{0, 5}, {0, 9}, {1, 5}, {0, 2}, {0, 7}, {2, 9}, {2, 5}, {0, 5}, {1, 2}, {1, 7}, {1, 5}, {0, 9}, {2, 2}, {0, 2}, {2, 9}, {2, 2}} {
		for _, id := range append(wrong, 0, 65536, 1, 3) {
			x.drain(t, id)
			x.remove(t, id)
			x.add(t, api.Backend{ID: id, Port: -1})
			if id < 1 || id > 65535 {
				x.add(t, as(id))
			}
		}
		for _, there := range x.m.all() {
			x.add(t, api.Backend{ID: there.b.ID, Addr: 1})
			if there.state == Draining {
				x.drain(t, there.b.ID)
			}
		}
		if x.m.active() == 3 {
			x.add(t, as(1))
		}
		for _, tuple := range keyless {
			x.p.Choose(tuple)
		}
		x.look(t, many)
		x.do(t, step[0], step[1])
		clean.do(t, step[0], step[1])
		if !slices.Equal(chosen(t, x.p, many), chosen(t, clean.p, many)) || !slices.Equal(listed(x.p), listed(clean.p)) {
			t.Fatal("behind errors, others are there, or chosen")
		}
	}
}

// history is what is done to a pool by a rule, and all that it answers meanwhile.
func history(room int, key string) []int {
	p, e := New(room, key)
	answers := []int{int(e)}
	for i := range 150 {
		id := i*i*7%40 + 1
		answers = append(answers, int(p.Add(as(id))))
		if i%3 == 0 {
			answers = append(answers, int(p.Drain(i%40)))
		}
		if i%4 == 0 {
			answers = append(answers, int(p.Remove(i*3%40)))
		}
		answers = append(answers, p.Active())
		for b, state := range p.All() {
			answers = append(answers, b.ID, int(b.Addr), b.Port, state)
		}
		for _, x := range few {
			b, _ := p.Choose(x)
			answers = append(answers, b.ID)
		}
	}
	return answers
}

// P4 of the rules: another pool that was made so and to which the same was done answers the same, also beside others, and at the same time.
func TestSameAgain(t *testing.T) {
	rooms := []int{1, 2, 8, 30, 65536}
	var first [][]int
	for _, room := range rooms {
		first = append(first, history(room, count))
	}
	var group sync.WaitGroup
	for range 4 {
		for i, room := range rooms {
			group.Go(func() {
				if !slices.Equal(history(room, count), first[i]) {
					t.Errorf("of a room of %d, done to the same again, it answers others", room)
				}
			})
		}
	}
	group.Wait()
}

// P3 and P4 of the rules: two pools share nothing, and to be asked changes nothing.
func TestApart(t *testing.T) {
	a, b := made(t, 8, digits, 1, 2, 3), made(t, 8, digits, 1, 2, 3)
	who := chosen(t, a, many)
	removed(t, b, 1)
	drained(t, b, 3)
	added(t, b, 4, 5)
	for range 3 {
		stands(t, a, []int{1, 2, 3}, nil)
		if !slices.Equal(chosen(t, a, many), who) {
			t.Error("where another one is changed, others are chosen")
		}
	}
	removed(t, a, 1, 2, 3)
	stands(t, b, []int{2, 4, 5}, []int{3})
}

// P3 of the rules: of the text that the key is a piece of nothing is kept, and what is done to a backend that was handed out changes nothing.
func TestKept(t *testing.T) {
	long := string(make([]byte, 1000)) + digits
	key := long[1000:]
	p := made(t, 8, key, 1, 2, 3)
	if unsafe.StringData(p.key) == unsafe.StringData(key) {
		t.Error("the key that was handed in is kept")
	}
	if !slices.Equal(chosen(t, p, many), chosen(t, made(t, 8, digits, 1, 2, 3), many)) {
		t.Error("with the same key others are chosen")
	}
	for b := range p.All() {
		b.ID, b.Addr = 9, 9
	}
	b, _, _ := p.Get(1)
	b.Port = 9
	stands(t, p, []int{1, 2, 3}, nil)
}
