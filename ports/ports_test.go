package ports

import (
	"maps"
	"math"
	"math/rand/v2"
	"slices"
	"sync"
	"testing"

	"weighbridge/api"
)

// wrong are numbers that no port has, nor may be the first port, nor as many as there are.
var wrong = []int{
	math.MinInt64, math.MinInt64 + 1, math.MinInt64 + 1000, math.MinInt64 + 65535, math.MinInt64 + 65536, math.MinInt32 - 1, math.MinInt32, -1 << 40, -65537, -65536, -65535, -1001, -1000, -2, -1, 0,
	65536, 65537, 131071, 131072, math.MaxInt32, math.MaxInt32 + 1, 1<<32 - 1, 1 << 32, 1<<32 + 1, 1<<32 + 1000, 1 << 40, 1 << 62, math.MaxInt64 - 65536, math.MaxInt64 - 1, math.MaxInt64,
}

// longs are times for which no port may rest.
var longs = []int{
	math.MinInt64, math.MinInt64 + 1, math.MinInt32, -1 << 41, -1 << 40, -2, -1,
	api.MaxTime + 1, api.MaxTime + 2, 2 * api.MaxTime, 1 << 62, math.MaxInt64 - 1, math.MaxInt64,
}

// early are nows that count as 0, late those that count as MaxTime.
var (
	early = []int{math.MinInt64, math.MinInt64 + 1, -1 << 62, -api.MaxTime - 1, -api.MaxTime, math.MinInt32, -10, -2, -1, 0}
	late  = []int{api.MaxTime, api.MaxTime + 1, api.MaxTime + 10, 2 * api.MaxTime, 2*api.MaxTime + 1, 2*api.MaxTime + 2, 1 << 62, math.MaxInt64 - api.MaxTime, math.MaxInt64 - 1, math.MaxInt64}
)

// Keys: alike, each of the others but for one field.
var (
	one   = Key{Proto: api.Tcp, Nat: 10<<24 | 1, Addr: 10<<24 | 9, Port: 8080}
	alike = []Key{
		{Proto: api.Udp, Nat: 10<<24 | 1, Addr: 10<<24 | 9, Port: 8080},
		{Proto: api.Tcp, Nat: 10<<24 | 2, Addr: 10<<24 | 9, Port: 8080},
		{Proto: api.Tcp, Nat: 10<<24 | 1, Addr: 10<<24 | 8, Port: 8080},
		{Proto: api.Tcp, Nat: 10<<24 | 1, Addr: 10<<24 | 9, Port: 8081},
		{Proto: api.Tcp + 256, Nat: 10<<24 | 1, Addr: 10<<24 | 9, Port: 8080},
		{Proto: api.Tcp, Nat: 10<<24 | 1, Addr: 10<<24 | 9, Port: 8080 + 65536},
		{Proto: api.Tcp, Nat: 10<<24 | 1, Addr: 10<<24 | 9, Port: 8080 + 1<<32},
		{Proto: api.Tcp + 1<<32, Nat: 10<<24 | 1, Addr: 10<<24 | 9, Port: 8080},
		{Proto: -api.Tcp, Nat: 10<<24 | 1, Addr: 10<<24 | 9, Port: 8080},
		{Proto: api.Tcp, Nat: 10<<24 | 1, Addr: 10<<24 | 9, Port: -8080},
		{Proto: api.Tcp, Nat: 1<<31 | 10<<24 | 1, Addr: 10<<24 | 9, Port: 8080},
		{Proto: api.Tcp, Nat: 10<<24 | 1, Addr: 1<<31 | 10<<24 | 9, Port: 8080},
		{Proto: api.Tcp, Nat: 10<<24 | 9, Addr: 10<<24 | 1, Port: 8080},
		{Proto: 8080, Nat: 10<<24 | 1, Addr: 10<<24 | 9, Port: api.Tcp},
		{},
		{Proto: math.MinInt64, Nat: math.MaxUint32, Addr: math.MaxUint32, Port: math.MinInt64},
		{Proto: math.MaxInt64, Nat: math.MaxUint32, Addr: math.MaxUint32, Port: math.MaxInt64},
	}
	two = alike[0]
)

// words says the chapter over again, word by word.
type words struct {
	low, many, rest int
	keys            map[Key]*place
}

type place struct {
	cursor int
	spots  []spot
}

type spot struct {
	lent, rests bool
	until       int
}

func newWords(low, many, rest int) *words {
	return &words{low: low, many: many, rest: rest, keys: map[Key]*place{}}
}

// counts is the time that a now counts as.
func counts(now int) int {
	if now < 0 {
		return 0
	}
	if now > api.MaxTime {
		return api.MaxTime
	}
	return now
}

func (m *words) of(k Key) *place {
	if m.keys[k] == nil {
		m.keys[k] = &place{spots: make([]spot, m.many)}
	}
	return m.keys[k]
}

func (m *words) spot(k Key, port int) *spot {
	if port < m.low || port >= m.low+m.many {
		return &spot{}
	}
	return &m.of(k).spots[port-m.low]
}

func (m *words) take(k Key, now int) (int, api.Errno) {
	x := m.of(k)
	for i := range x.spots {
		if x.spots[i].rests && x.spots[i].until <= counts(now) {
			x.spots[i] = spot{}
		}
	}
	for step := range m.many {
		i := (x.cursor + step) % m.many
		if x.spots[i] == (spot{}) {
			x.spots[i].lent = true
			x.cursor = (i + 1) % m.many
			return m.low + i, api.OK
		}
	}
	return 0, api.ErrPorts
}

func (m *words) give(k Key, port, now int) bool {
	s := m.spot(k, port)
	if !s.lent {
		return false
	}
	*s = spot{rests: true, until: counts(now) + m.rest}
	return true
}

func (m *words) lent(k Key, port int) bool { return m.spot(k, port).lent }

func (m *words) resting(k Key, port, now int) bool {
	s := m.spot(k, port)
	return s.rests && s.until > counts(now)
}

// events says the chapter over again in another way: it keeps what was done, and each time looks back at all of it.
type events struct {
	low, many, rest int
	done            []event
}

// event is a Take or a Give; the port of a Take that got none is 0.
type event struct {
	give      bool
	k         Key
	port, now int
}

// last answers where the last event of this port of this key is, or -1.
func (v *events) last(k Key, port int) int {
	for at := len(v.done) - 1; at >= 0; at-- {
		if v.done[at].k == k && v.done[at].port == port {
			return at
		}
	}
	return -1
}

// until answers up to when this port rests, or -1 where it does not: it was given last, and no Take of its key has come so late since.
func (v *events) until(k Key, port int) int {
	at := v.last(k, port)
	if at < 0 || !v.done[at].give {
		return -1
	}
	until := counts(v.done[at].now) + v.rest
	for _, d := range v.done[at:] {
		if d.k == k && !d.give && counts(d.now) >= until {
			return -1
		}
	}
	return until
}

func (v *events) lent(k Key, port int) bool {
	at := v.last(k, port)
	return port >= v.low && port < v.low+v.many && at >= 0 && !v.done[at].give
}

func (v *events) resting(k Key, port, now int) bool { return v.until(k, port) > counts(now) }

func (v *events) take(k Key, now int) (int, api.Errno) {
	first := v.low
	for _, d := range v.done {
		if d.k == k && !d.give && d.port != 0 {
			first = d.port + 1
		}
	}
	v.done = append(v.done, event{k: k, now: now})
	row := append(upTo(first, v.low+v.many), upTo(v.low, first)...)
	for _, port := range row {
		if !v.lent(k, port) && v.until(k, port) < 0 {
			v.done[len(v.done)-1].port = port
			return port, api.OK
		}
	}
	return 0, api.ErrPorts
}

func (v *events) give(k Key, port, now int) bool {
	if !v.lent(k, port) {
		return false
	}
	v.done = append(v.done, event{give: true, k: k, port: port, now: now})
	return true
}

// upTo is the numbers from one on up to ahead of another.
func upTo(from, end int) []int {
	l := []int{}
	for i := from; i < end; i++ {
		l = append(l, i)
	}
	return l
}

// made is New where it may not fail.
func made(t *testing.T, low, many, rest int) *Ports {
	t.Helper()
	p, e := New(low, many, rest)
	if p == nil || e != api.OK {
		t.Fatalf("New(%d, %d, %d) = %v, %d", low, many, rest, p != nil, e)
	}
	return p
}

// takes is Take of each at this time, in this order.
func takes(t *testing.T, p *Ports, k Key, now int, l ...int) {
	t.Helper()
	for _, want := range l {
		if port, e := p.Take(k, now); port != want || e != api.OK {
			t.Fatalf("Take(%v, %d) = %d, %d; want %d", k, now, port, e, want)
		}
	}
}

// none is Take where there is none, again and again.
func none(t *testing.T, p *Ports, k Key, now int) {
	t.Helper()
	for range 2 {
		if port, e := p.Take(k, now); port != 0 || e != api.ErrPorts {
			t.Fatalf("Take(%v, %d) = %d, %d, where there is none", k, now, port, e)
		}
	}
}

// gives is Give of each, where each is lent.
func gives(t *testing.T, p *Ports, k Key, now int, l ...int) {
	t.Helper()
	for _, port := range l {
		if !p.Give(k, port, now) {
			t.Fatalf("Give(%v, %d, %d) = false", k, port, now)
		}
	}
}

// refused is Give of each, where none is lent.
func refused(t *testing.T, p *Ports, k Key, now int, l ...int) {
	t.Helper()
	for _, port := range l {
		if p.Give(k, port, now) {
			t.Fatalf("Give(%v, %d, %d) = true, where it is not lent", k, port, now)
		}
	}
}

// lentAre holds that just these ports of a key are lent.
func lentAre(t *testing.T, p *Ports, k Key, want ...int) {
	t.Helper()
	got := []int{}
	for port := p.low - 3; port < p.low+p.many+3; port++ {
		if p.Lent(k, port) {
			got = append(got, port)
		}
	}
	if !slices.Equal(got, want) {
		t.Fatalf("of %v %v are lent; want %v", k, got, want)
	}
	for _, port := range append(slices.Clone(wrong), -p.low, p.low+65536, p.low-65536, p.low+1<<32) {
		if p.Lent(k, port) {
			t.Fatalf("Lent(%v, %d) = true", k, port)
		}
	}
}

// restAre holds that just these ports of a key rest above now.
func restAre(t *testing.T, p *Ports, k Key, now int, want ...int) {
	t.Helper()
	got := []int{}
	for port := p.low - 3; port < p.low+p.many+3; port++ {
		if p.Rests(k, port, now) {
			got = append(got, port)
		}
	}
	if !slices.Equal(got, want) {
		t.Fatalf("of %v %v rest at %d; want %v", k, got, now, want)
	}
	for _, port := range append(slices.Clone(wrong), -p.low, p.low+65536, p.low-65536, p.low+1<<32) {
		if p.Rests(k, port, now) {
			t.Fatalf("Rests(%v, %d, %d) = true", k, port, now)
		}
	}
}

// ends holds that a port rests just up to this time.
func ends(t *testing.T, p *Ports, k Key, port, until int) {
	t.Helper()
	for now := max(0, until-3); now < until+3 && now <= api.MaxTime; now++ {
		if got, want := p.Rests(k, port, now), now < until; got != want {
			t.Fatalf("Rests(%v, %d, %d) = %v; it rests up to %d", k, port, now, got, until)
		}
	}
	for _, now := range early {
		if got, want := p.Rests(k, port, now), until > 0; got != want {
			t.Fatalf("Rests(%v, %d, %d) = %v; it rests up to %d", k, port, now, got, until)
		}
	}
	for _, now := range late {
		if got, want := p.Rests(k, port, now), until > api.MaxTime; got != want {
			t.Fatalf("Rests(%v, %d, %d) = %v; it rests up to %d", k, port, now, got, until)
		}
	}
}

// restsNoMore holds that a port rests at no time at all.
func restsNoMore(t *testing.T, p *Ports, k Key, port int) {
	t.Helper()
	for _, now := range append(append(upTo(0, 40), early...), late...) {
		if p.Rests(k, port, now) {
			t.Fatalf("Rests(%v, %d, %d) = true, where it rests no more", k, port, now)
		}
	}
}

// rig is ports, and the two that say them over again.
type rig struct {
	p *Ports
	m *words
	v *events // nil where what is done is too much to look back at
}

func newRig(t *testing.T, low, many, rest int) *rig {
	t.Helper()
	return &rig{p: made(t, low, many, rest), m: newWords(low, many, rest), v: &events{low: low, many: many, rest: rest}}
}

func (x *rig) take(t *testing.T, k Key, now int) int {
	t.Helper()
	want, right := x.m.take(k, now)
	if x.v != nil {
		if port, e := x.v.take(k, now); port != want || e != right {
			t.Fatalf("said over again in another way, Take(%v, %d) = %d, %d; want %d, %d", k, now, port, e, want, right)
		}
	}
	if port, e := x.p.Take(k, now); port != want || e != right {
		t.Fatalf("Take(%v, %d) = %d, %d; want %d, %d", k, now, port, e, want, right)
	}
	return want
}

func (x *rig) give(t *testing.T, k Key, port, now int) {
	t.Helper()
	want := x.m.give(k, port, now)
	if x.v != nil && x.v.give(k, port, now) != want {
		t.Fatalf("said over again in another way, Give(%v, %d, %d) = %v; want %v", k, port, now, !want, want)
	}
	if x.p.Give(k, port, now) != want {
		t.Fatalf("Give(%v, %d, %d) = %v; want %v", k, port, now, !want, want)
	}
}

// ask holds what is asked of one port against what is said over again.
func (x *rig) ask(t *testing.T, k Key, port, now int) {
	t.Helper()
	lent, rests := x.m.lent(k, port), x.m.resting(k, port, now)
	if x.v != nil && (x.v.lent(k, port) != lent || x.v.resting(k, port, now) != rests) {
		t.Fatalf("said over again in another way, of %v and %d at %d another thing is said", k, port, now)
	}
	if x.p.Lent(k, port) != lent {
		t.Fatalf("Lent(%v, %d) = %v; want %v", k, port, !lent, lent)
	}
	if x.p.Rests(k, port, now) != rests {
		t.Fatalf("Rests(%v, %d, %d) = %v; want %v", k, port, now, !rests, rests)
	}
}

// look asks of all ports of some keys, and of those beside them, at some times.
func (x *rig) look(t *testing.T, keys []Key, nows ...int) {
	t.Helper()
	for _, k := range keys {
		for port := x.m.low - 1; port <= x.m.low+x.m.many; port++ {
			for _, now := range nows {
				x.ask(t, k, port, now)
			}
		}
	}
}

// P15.1: the chapter's own example.
func TestChapter(t *testing.T) {
	p, e := New(1000, 1, 5)
	if e != api.OK {
		t.Fatalf("New(1000, 1, 5) = %d", e)
	}
	if port, e := p.Take(one, 0); port != 1000 || e != api.OK {
		t.Errorf("the first Take = %d, %d", port, e)
	}
	if port, e := p.Take(one, 0); port != 0 || e != api.ErrPorts {
		t.Errorf("the second Take = %d, %d", port, e)
	}
}

// P15.1: a first port, as many, or a rest that may not be, alone and together; nothing is made.
func TestNewWrong(t *testing.T) {
	bad := func(low, many, rest int) {
		t.Helper()
		if p, e := New(low, many, rest); p != nil || e != api.ErrArg {
			t.Errorf("New(%d, %d, %d) = %v, %d", low, many, rest, p != nil, e)
		}
	}
	for _, x := range wrong {
		for _, y := range []int{1, 2, 1000, 65535} {
			bad(x, y, 5)
			bad(y, x, 5)
		}
		for _, y := range wrong { // among them those whose sum goes round to one that might be
			bad(x, y, 5)
			bad(x, y, -1)
		}
		bad(x, 65536-x, 5)
		bad(x, -x, 5)
		bad(x, math.MinInt64-x, 5)
		bad(65536-x, x, 5)
	}
	for _, rest := range longs {
		for _, x := range []int{1, 1000, 60000} {
			bad(x, 1, rest)
			bad(1, x, rest)
			bad(0, x, rest)
		}
	}
}

// P15.1: with the least and the most ports, from the lowest and up to the greatest, and one more; a rest of 0 and of MaxTime may be.
func TestNewEdges(t *testing.T) {
	for _, rest := range []int{0, 1, 10, api.MaxTime - 1, api.MaxTime} {
		for _, low := range []int{1, 2, 1000, 1024, 32768, 65534, 65535} {
			for _, many := range []int{1, 2, 65536 - low - 1, 65536 - low} {
				if many < 1 || low+many > 65536 {
					continue
				}
				p := made(t, low, many, rest)
				lentAre(t, p, one)
				restAre(t, p, one, 0)
				refused(t, p, one, 0, low, low+many-1)
				takes(t, p, one, 0, low)
				lentAre(t, p, one, low)
			}
			if p, e := New(low, 65536-low+1, rest); p != nil || e != api.ErrArg {
				t.Errorf("New(%d, %d, %d) = %v, %d", low, 65536-low+1, rest, p != nil, e)
			}
		}
	}
}

// P15.1 and P15.2: a key that was never named has all ports, rising, each is lent from then on; and then there is none, again and again.
func TestTakeAll(t *testing.T) {
	for _, c := range [][2]int{{1, 1}, {1000, 1}, {65535, 1}, {1, 2}, {7, 3}, {1000, 64}, {1000, 65}, {60000, 5536}, {1, 65535}} {
		low, many := c[0], c[1]
		p := made(t, low, many, 5)
		for _, k := range []Key{one, two} {
			for port := low; port < low+many; port++ {
				if p.Lent(k, port) || p.Rests(k, port, 0) {
					t.Fatalf("ahead of Take %d of %v is lent, or rests", port, k)
				}
				takes(t, p, k, 0, port)
				if !p.Lent(k, port) || p.Rests(k, port, 0) || p.Lent(k, port+1) {
					t.Fatalf("behind Take %d of %v is not lent, or rests, or the next one is lent", port, k)
				}
			}
			for _, now := range append(slices.Clone(early), late...) {
				none(t, p, k, now)
			}
			lentAre(t, p, k, upTo(low, low+many)...)
		}
	}
}

// P15.1 and P15.2: each key has ports of its own, whichever one field tells it apart.
func TestKeys(t *testing.T) {
	for _, k := range alike {
		p := made(t, 1000, 2, 10)
		takes(t, p, one, 0, 1000)
		lentAre(t, p, k)
		refused(t, p, k, 0, 1000, 1001)
		takes(t, p, one, 0, 1001)
		none(t, p, one, 0)
		takes(t, p, k, 0, 1000)
		lentAre(t, p, k, 1000)
		lentAre(t, p, one, 1000, 1001)
		gives(t, p, k, 0, 1000)
		lentAre(t, p, k)
		lentAre(t, p, one, 1000, 1001)
		restAre(t, p, k, 9, 1000)
		restAre(t, p, one, 9)
		gives(t, p, one, 3, 1001)
		restAre(t, p, k, 9, 1000)
		restAre(t, p, k, 10)
		restAre(t, p, one, 12, 1001)
		none(t, p, one, 12)
		takes(t, p, k, 9, 1001)
		none(t, p, k, 9)
		takes(t, p, k, 10, 1000)
		restAre(t, p, one, 12, 1001)
		takes(t, p, one, 13, 1001)
	}
}

// P15.1 and P15.2: all of those keys at one time, each with ports that are lent and one that rests.
func TestAllKeys(t *testing.T) {
	keys := append(slices.Clone(alike), one)
	p := made(t, 50, 3, 4)
	for port := 50; port < 53; port++ {
		for _, k := range keys {
			takes(t, p, k, 0, port)
		}
	}
	for at, k := range keys {
		none(t, p, k, 0)
		gives(t, p, k, at, 50+at%3)
	}
	for at, k := range keys {
		lentAre(t, p, k, slices.DeleteFunc(upTo(50, 53), func(port int) bool { return port == 50+at%3 })...)
		ends(t, p, k, 50+at%3, at+4)
		none(t, p, k, at+3)
		takes(t, p, k, at+4, 50+at%3)
		none(t, p, k, at+4)
		lentAre(t, p, k, 50, 51, 52)
	}
}

// P15.1: ports come round and round, as the cursor goes: one that was given is lent again when it comes round, not sooner.
func TestRound(t *testing.T) {
	p := made(t, 10, 4, 0)
	for range 3 {
		for port := 10; port < 14; port++ {
			takes(t, p, one, 0, port)
			gives(t, p, one, 0, port)
		}
	}
	takes(t, p, one, 0, 10, 11)
	gives(t, p, one, 0, 10, 11)
	takes(t, p, one, 0, 12)
	takes(t, p, two, 0, 10) // a key that has a round of its own
	takes(t, p, one, 0, 13, 10, 11)
	none(t, p, one, 0)
	gives(t, p, one, 0, 13, 10) // the last one that was lent was 11
	takes(t, p, one, 0, 13)
	gives(t, p, one, 0, 12, 13, 11)
	takes(t, p, one, 0, 10, 11, 12, 13)
	none(t, p, one, 0)
	takes(t, p, two, 0, 11, 12, 13)
}

// P15.1: ports that rest are gone over, and come in their round when they rest no more.
func TestRoundRest(t *testing.T) {
	p := made(t, 10, 5, 10)
	takes(t, p, one, 0, 10, 11, 12)
	gives(t, p, one, 0, 10)
	gives(t, p, one, 1, 12)
	takes(t, p, one, 5, 13)
	gives(t, p, one, 5, 13)
	takes(t, p, one, 9, 14)
	none(t, p, one, 9)
	takes(t, p, one, 10, 10)
	none(t, p, one, 10)
	takes(t, p, one, 15, 12, 13)
	none(t, p, one, 15)
	gives(t, p, one, 15, 11, 14)
	none(t, p, one, 24)
	takes(t, p, one, 25, 14, 11)
	lentAre(t, p, one, 10, 11, 12, 13, 14)
}

// P15.1 and P15.2: a port that rests is not lent just a tick ahead of the time up to which it rests, and is at it, and behind it.
func TestRestEnds(t *testing.T) {
	for _, rest := range []int{0, 1, 2, 5, 1000, 1 << 30, api.MaxTime - 1, api.MaxTime} {
		for _, from := range []int{0, 1, 7, 1 << 30, 1 << 39, api.MaxTime - 5, api.MaxTime - 1, api.MaxTime} {
			until := from + rest
			for _, now := range []int{until - 2, until - 1, until, until + 1, until + 1000} {
				p := made(t, 1000, 1, rest)
				takes(t, p, one, 0, 1000)
				gives(t, p, one, from, 1000)
				lentAre(t, p, one)
				ends(t, p, one, 1000, until)
				if counts(now) < until {
					none(t, p, one, now)
					lentAre(t, p, one)
					ends(t, p, one, 1000, until)
					continue
				}
				takes(t, p, one, now, 1000)
				lentAre(t, p, one, 1000)
				restsNoMore(t, p, one, 1000)
				none(t, p, one, now)
			}
		}
	}
}

// P15.1: more than one port rests: those up to then are lent, those that rest longer are not; whichever was given first.
func TestSomeRest(t *testing.T) {
	for _, order := range [][]int{{20, 21, 22, 23}, {23, 22, 21, 20}, {21, 23, 20, 22}, {22, 20, 23, 21}} {
		for now := range 8 {
			p := made(t, 20, 5, 3)
			takes(t, p, one, 0, 20, 21, 22, 23, 24)
			for at, port := range order {
				gives(t, p, one, at, port)
			}
			want, still := []int{}, []int{}
			for at, port := range order {
				ends(t, p, one, port, at+3)
				if at+3 <= now {
					want = append(want, port)
				} else {
					still = append(still, port)
				}
			}
			slices.Sort(want)
			slices.Sort(still)
			takes(t, p, one, now, want...)
			none(t, p, one, now)
			restAre(t, p, one, now, still...)
			restAre(t, p, one, 0, still...)
			if len(want) > 0 { // the round goes on behind the last one that was lent
				last := want[len(want)-1]
				slices.SortStableFunc(still, func(a, b int) int { return (a-last+5)%5 - (b-last+5)%5 })
			}
			takes(t, p, one, 6, still...)
			none(t, p, one, 6)
		}
	}
}

// P15.1: a Take lets just those of its own key rest no more.
func TestSomeRestOfTwo(t *testing.T) {
	p := made(t, 20, 3, 4)
	for _, k := range []Key{one, two} {
		takes(t, p, k, 0, 20, 21, 22)
		gives(t, p, k, 0, 21)
		gives(t, p, k, 2, 20)
	}
	takes(t, p, one, 5, 21)
	restAre(t, p, one, 0, 20)
	restAre(t, p, two, 0, 20, 21) // nobody has taken one of its key since
	restAre(t, p, two, 3, 20, 21)
	restAre(t, p, two, 4, 20)
	none(t, p, two, 3)
	restAre(t, p, two, 3, 20, 21)
	takes(t, p, one, 6, 20)
	restAre(t, p, one, 0)
	restAre(t, p, two, 0, 20, 21)
	takes(t, p, two, 6, 20)
	restAre(t, p, two, 0)
	lentAre(t, p, two, 20, 22)
	takes(t, p, two, 0, 21)
	none(t, p, two, 0)
}

// P15.1, and P2 of the rules: a Take that finds none while ports rest changes nothing.
func TestNoneWhileResting(t *testing.T) {
	p := made(t, 20, 3, 10)
	takes(t, p, one, 0, 20, 21, 22)
	gives(t, p, one, 0, 21)
	gives(t, p, one, 3, 22)
	for now := -1; now < 10; now++ {
		none(t, p, one, now)
		lentAre(t, p, one, 20)
		ends(t, p, one, 21, 10)
		ends(t, p, one, 22, 13)
	}
	takes(t, p, one, 10, 21)
	none(t, p, one, 12)
	ends(t, p, one, 22, 13)
	takes(t, p, one, 13, 22)
}

// P15.2: Give of a port that is lent, of it again, of one that is not lent, of one of another key, and of one that was lent again.
func TestGive(t *testing.T) {
	p := made(t, 20, 4, 10)
	refused(t, p, one, 0, 20, 21, 22, 23)
	takes(t, p, one, 0, 20, 21, 22)
	takes(t, p, two, 0, 20)
	refused(t, p, one, 0, 23)
	refused(t, p, two, 0, 21, 22, 23)
	gives(t, p, one, 5, 21)
	refused(t, p, one, 5, 21, 21)
	refused(t, p, one, 6, 21)
	refused(t, p, one, 15, 21)
	refused(t, p, one, 100, 21)
	ends(t, p, one, 21, 15) // the first Give alone counts
	lentAre(t, p, one, 20, 22)
	lentAre(t, p, two, 20)
	gives(t, p, two, 0, 20)
	lentAre(t, p, one, 20, 22)
	gives(t, p, one, 0, 20)
	takes(t, p, one, 15, 23, 20, 21)
	refused(t, p, two, 0, 20, 21, 22, 23)
	gives(t, p, one, 20, 21)
	ends(t, p, one, 21, 30)
	gives(t, p, one, 2, 22, 20, 23)
	ends(t, p, one, 22, 12)
	refused(t, p, one, 0, 20, 21, 22, 23)
	lentAre(t, p, one)
}

// P15.2: numbers that no port has, and those beside the first and the last one, with none, some and all lent, and where ports rest: false, and nothing has changed.
func TestPortsWrong(t *testing.T) {
	for _, c := range [][2]int{{1, 1}, {1, 3}, {1000, 2}, {32768, 5}, {65535, 1}, {65530, 6}} {
		low, many := c[0], c[1]
		for lent := range many + 1 {
			p := made(t, low, many, 10)
			takes(t, p, one, 0, upTo(low, low+lent)...)
			for _, port := range upTo(low, low+lent/2) {
				gives(t, p, one, 0, port)
			}
			beside := append(slices.Clone(wrong), low-1, low+many, low+many+1, low-2, low+lent, low-65536, low+65536, low+1<<32, math.MinInt64+low, math.MinInt64+low-1, math.MinInt64+low+1, -low)
			for _, now := range append(slices.Clone(early), late...) {
				for _, port := range beside {
					if p.Give(one, port, now) || p.Lent(one, port) || p.Rests(one, port, now) {
						t.Fatalf("of %d from %d on, %d is given, lent, or rests", many, low, port)
					}
				}
			}
			lentAre(t, p, one, upTo(low+lent/2, low+lent)...)
			restAre(t, p, one, 9, upTo(low, low+lent/2)...)
			takes(t, p, one, 0, upTo(low+lent, low+many)...)
			none(t, p, one, 9)
			takes(t, p, one, 10, upTo(low, low+lent/2)...)
			none(t, p, one, math.MaxInt64)
		}
	}
}

// P15.2: of keys that were never named no port is lent, rests, or is given.
func TestKeyNeverNamed(t *testing.T) {
	p := made(t, 1000, 2, 10)
	for step := range 4 {
		for _, k := range alike {
			lentAre(t, p, k)
			restAre(t, p, k, 0)
			refused(t, p, k, 0, 999, 1000, 1001, 1002, 0, -1, math.MinInt64, math.MaxInt64)
		}
		switch step { // what is done to another key is nothing to them
		case 0:
			takes(t, p, one, 0, 1000)
		case 1:
			gives(t, p, one, 0, 1000)
		case 2:
			takes(t, p, one, 0, 1001)
		}
	}
}

// P15.2: Rests ahead of the rest's end, at it and behind it; of one that is lent, or was never given, it is false.
func TestRests(t *testing.T) {
	p := made(t, 1000, 3, 10)
	takes(t, p, one, 0, 1000, 1001)
	restsNoMore(t, p, one, 1000)
	restsNoMore(t, p, one, 1002)
	gives(t, p, one, 7, 1000)
	ends(t, p, one, 1000, 17)
	restsNoMore(t, p, one, 1001)
	restsNoMore(t, p, one, 1002)
	restsNoMore(t, p, two, 1000)
	gives(t, p, one, 0, 1001)
	ends(t, p, one, 1000, 17)
	ends(t, p, one, 1001, 10)
}

// P15.1 and P15.2: a port rests no more since a Take of its key that came so late, also where that Take gave another one, and where now has gone back since; one that came sooner, or was of another key, lets it rest.
func TestRestsNoMore(t *testing.T) {
	p := made(t, 1000, 4, 10)
	takes(t, p, one, 0, 1000, 1001)
	gives(t, p, one, 0, 1000)
	gives(t, p, one, 5, 1001)
	takes(t, p, two, 20, 1000)
	ends(t, p, one, 1000, 10)
	takes(t, p, one, 9, 1002)
	ends(t, p, one, 1000, 10)
	ends(t, p, one, 1001, 15)
	takes(t, p, one, 10, 1003) // another one
	restsNoMore(t, p, one, 1000)
	ends(t, p, one, 1001, 15)
	refused(t, p, one, 0, 1000)
	takes(t, p, one, 0, 1000) // now has gone back, and it may yet be lent
	none(t, p, one, 0)
	ends(t, p, one, 1001, 15)
	takes(t, p, one, 16, 1001)
	restsNoMore(t, p, one, 1001)
	gives(t, p, one, 3, 1000) // it rests anew
	ends(t, p, one, 1000, 13)
	none(t, p, one, 12)
	ends(t, p, one, 1000, 13)
}

// P15.2: a port that was lent again does not rest, whatever now is; given again, it rests anew, also up to a time ahead of the last one.
func TestLentAgain(t *testing.T) {
	p := made(t, 1000, 1, 10)
	for _, from := range []int{0, 100, 50, 3, 0, 1000, api.MaxTime - 10, 0} {
		takes(t, p, one, math.MaxInt64, 1000)
		restsNoMore(t, p, one, 1000)
		lentAre(t, p, one, 1000)
		gives(t, p, one, from, 1000)
		lentAre(t, p, one)
		ends(t, p, one, 1000, from+10)
		none(t, p, one, from+9)
	}
}

// P15.1 and P15.2: a rest of 0 is over at once, but not at a time ahead.
func TestRestOfNone(t *testing.T) {
	p := made(t, 1000, 2, 0)
	takes(t, p, one, 0, 1000)
	gives(t, p, one, 0, 1000)
	restsNoMore(t, p, one, 1000)
	lentAre(t, p, one)
	takes(t, p, one, 0, 1001, 1000)
	none(t, p, one, 0)
	gives(t, p, one, 5, 1000)
	ends(t, p, one, 1000, 5)
	none(t, p, one, 4)
	takes(t, p, one, 5, 1000)
	gives(t, p, one, math.MaxInt64, 1000)
	ends(t, p, one, 1000, api.MaxTime)
	none(t, p, one, api.MaxTime-1)
	takes(t, p, one, api.MaxTime, 1000)
}

// P15.1 and P15.2: a now below 0 counts as 0, one above MaxTime as that, in Take, Give and Rests.
func TestNowEdges(t *testing.T) {
	for _, from := range early {
		for _, now := range early {
			p := made(t, 1000, 1, 1)
			takes(t, p, one, now, 1000)
			gives(t, p, one, from, 1000)
			ends(t, p, one, 1000, 1)
			none(t, p, one, now)
			takes(t, p, one, 1, 1000)
			q := made(t, 1000, 1, 0)
			takes(t, q, one, now, 1000)
			gives(t, q, one, from, 1000)
			restsNoMore(t, q, one, 1000)
			takes(t, q, one, now, 1000)
		}
	}
	for _, from := range late {
		for _, now := range late {
			p := made(t, 1000, 1, 1)
			takes(t, p, one, now, 1000)
			gives(t, p, one, from, 1000)
			ends(t, p, one, 1000, api.MaxTime+1)
			none(t, p, one, now) // it rests up to a time that never comes
			q := made(t, 1000, 1, 0)
			takes(t, q, one, now, 1000)
			gives(t, q, one, from, 1000)
			ends(t, q, one, 1000, api.MaxTime)
			none(t, q, one, api.MaxTime-1)
			takes(t, q, one, now, 1000)
		}
	}
}

// P15.1 and P15.2: the longest rest, from the first and from the last tick.
func TestLongestRest(t *testing.T) {
	for _, from := range []int{math.MinInt64, -1, 0} {
		p := made(t, 1000, 1, api.MaxTime)
		takes(t, p, one, 0, 1000)
		gives(t, p, one, from, 1000)
		ends(t, p, one, 1000, api.MaxTime)
		none(t, p, one, api.MaxTime-1)
		takes(t, p, one, api.MaxTime, 1000)
	}
	for _, from := range []int{1, api.MaxTime - 1, api.MaxTime, math.MaxInt64} {
		p := made(t, 1000, 2, api.MaxTime)
		takes(t, p, one, 0, 1000)
		gives(t, p, one, from, 1000)
		ends(t, p, one, 1000, counts(from)+api.MaxTime)
		takes(t, p, one, math.MaxInt64, 1001)
		none(t, p, one, math.MaxInt64)
		ends(t, p, one, 1000, counts(from)+api.MaxTime)
	}
}

// P15.1 and P15.2: a now that goes back counts as it is.
func TestNowBack(t *testing.T) {
	p := made(t, 1000, 3, 10)
	takes(t, p, one, 100, 1000, 1001)
	takes(t, p, one, 50, 1002)
	gives(t, p, one, 100, 1000)
	gives(t, p, one, 40, 1001)
	gives(t, p, one, 70, 1002)
	ends(t, p, one, 1000, 110)
	ends(t, p, one, 1001, 50)
	ends(t, p, one, 1002, 80)
	none(t, p, one, 49)
	none(t, p, one, 0)
	takes(t, p, one, 79, 1001)
	none(t, p, one, 79)
	gives(t, p, one, 0, 1001)
	none(t, p, one, 9)
	takes(t, p, one, 10, 1001)
	takes(t, p, one, 80, 1002)
	none(t, p, one, 109)
	takes(t, p, one, 110, 1000)
	none(t, p, one, 0)
}

// P15.1: whichever port of a key was given at the time that comes first, or last, the others wait for their own.
func TestSoonest(t *testing.T) {
	for _, times := range [][]int{{0, 1, 2}, {2, 1, 0}, {1, 0, 2}, {0, 2, 1}, {2, 0, 1}, {1, 2, 0}, {0, 0, 1}, {1, 0, 0}, {0, 1, 0}, {5, 0, 0}, {0, 7, 7}} {
		x := newRig(t, 10, 3, 2)
		for range 3 {
			x.take(t, one, 0)
		}
		for at, from := range times {
			x.give(t, one, 10+at, from)
			for now := range 2 {
				x.take(t, one, now)
			}
		}
		for now := range 12 {
			for range 4 {
				if port := x.take(t, one, now); port != 0 && now < 6 {
					x.give(t, one, port, now)
				}
			}
			x.look(t, []Key{one}, 0, now-1, now, now+1, now+2)
		}
	}
}

// act is a call that changes something, or may.
type act struct {
	give      bool
	k         Key
	port, now int
}

func (x *rig) do(t *testing.T, a act) {
	t.Helper()
	if a.give {
		x.give(t, a.k, a.port, a.now)
		return
	}
	x.take(t, a.k, a.now)
}

// allActs is all that is worth being done to a few ports.
func allActs(low, many int, nows []int) []act {
	l := []act{{k: two, now: 1}, {give: true, k: two, port: low, now: 1}}
	for _, now := range nows {
		l = append(l, act{k: one, now: now})
		for i := range many {
			l = append(l, act{give: true, k: one, port: low + i, now: now})
		}
	}
	return l
}

// P15.1 to P15.3: all that can be done, up to a number of times, from the beginning on, and from when all ports of a key are lent.
func TestAllSmall(t *testing.T) {
	for _, c := range []struct{ many, rest, times, nows int }{{1, 0, 5, 2}, {1, 1, 5, 3}, {1, 2, 4, 4}, {2, 0, 4, 2}, {2, 1, 4, 3}, {2, 2, 4, 3}, {3, 1, 4, 2}, {3, 2, 3, 4}} {
		acts := allActs(30, c.many, upTo(0, c.nows))
		for _, lent := range []int{0, c.many} {
			done := make([]act, 0, c.times)
			var deeper func()
			deeper = func() {
				if len(done) < c.times {
					for _, a := range acts {
						done = append(done, a)
						deeper()
						done = done[:len(done)-1]
					}
					return
				}
				x := newRig(t, 30, c.many, c.rest)
				for range lent {
					x.take(t, one, 0)
				}
				for _, a := range done {
					x.do(t, a)
				}
				x.look(t, []Key{one, two}, 0, 1, c.nows)
			}
			deeper()
		}
	}
}

// anyNow is a time: one of a few that lie near, or any.
func anyNow(r *rand.Rand, near int) int {
	switch r.IntN(40) {
	case 0:
		return early[r.IntN(len(early))]
	case 1:
		return late[r.IntN(len(late))]
	}
	return near + r.IntN(6) - 2
}

// P15.1 to P15.3: histories, with few ports and many, short rests and long ones, a time that goes on and at times back, and wrong numbers between.
func TestMany(t *testing.T) {
	r := rand.New(rand.NewPCG(15, 2026))
	for range 300 {
		low, many, rest := 1+r.IntN(60000), 1+r.IntN(1+r.IntN(12)), r.IntN(1+r.IntN(20))
		x := newRig(t, low, many, rest)
		keys := []Key{one, alike[r.IntN(len(alike))]}
		down, near := r.IntN(10), r.IntN(30)
		for range 60 {
			near += r.IntN(4) - r.IntN(2)
			k := keys[r.IntN(2)]
			switch {
			case r.IntN(20) == 0:
				x.give(t, k, wrong[r.IntN(len(wrong))], anyNow(r, near))
			case r.IntN(10) < down:
				x.give(t, k, low-1+r.IntN(many+2), anyNow(r, near))
			default:
				x.take(t, k, anyNow(r, near))
			}
			x.ask(t, k, low-1+r.IntN(many+2), anyNow(r, near))
		}
		x.look(t, keys, near-5, near-1, near, near+1, near+5)
	}
}

// P15.1 to P15.3: longer histories of more ports.
func TestLong(t *testing.T) {
	r := rand.New(rand.NewPCG(16, 2026))
	for range 60 {
		low, many, rest := 1+r.IntN(60000), 1+r.IntN(300), r.IntN(1+r.IntN(200))
		x := newRig(t, low, many, rest)
		x.v = nil
		down, near := 3+r.IntN(4), 0
		for range 6 * many {
			near += r.IntN(2)
			k := alike[r.IntN(3)]
			if r.IntN(10) < down {
				x.give(t, k, low+r.IntN(many), anyNow(r, near))
			} else {
				x.take(t, k, anyNow(r, near))
			}
			x.ask(t, k, low+r.IntN(many), anyNow(r, near))
		}
		x.look(t, alike[:3], 0, near-20, near-1, near, near+1, near+20, near+200)
	}
}

// P15.1 to P15.3: the same with as many ports as there may be.
func TestGreat(t *testing.T) {
	r := rand.New(rand.NewPCG(17, 2026))
	p := made(t, 1, 65535, 100)
	lent := map[int]bool{}
	for port := 1; port < 65536; port++ {
		takes(t, p, one, 0, port)
		lent[port] = true
	}
	none(t, p, one, math.MaxInt64)
	rests := map[int]int{}
	for now := range 300 {
		for range 100 {
			port := 1 + r.IntN(65535)
			if p.Give(one, port, now) != lent[port] {
				t.Fatalf("Give of %d at %d = %v", port, now, !lent[port])
			}
			if lent[port] {
				delete(lent, port)
				rests[port] = now + 100
			}
		}
		if now < 100 {
			none(t, p, one, now)
			continue
		}
		for range 80 {
			port, e := p.Take(one, now)
			if e != api.OK || lent[port] || rests[port] > now {
				t.Fatalf("Take at %d = %d, %d; lent %v, rests up to %d", now, port, e, lent[port], rests[port])
			}
			lent[port] = true
			delete(rests, port)
		}
	}
	for port := 1; port < 65536; port++ {
		if p.Lent(one, port) != lent[port] {
			t.Fatalf("Lent of %d = %v", port, !lent[port])
		}
		if until, ok := rests[port]; ok && until > 299 {
			ends(t, p, one, port, until)
		}
	}
}

// P15.3: no port is lent twice at one time to one key, none that rests is lent, and all are that may be.
func TestNeverTwice(t *testing.T) {
	r := rand.New(rand.NewPCG(18, 2026))
	for range 200 {
		low, many, rest := 1+r.IntN(1000), 1+r.IntN(40), r.IntN(12)
		p := made(t, low, many, rest)
		now := 0
		lent := map[int]bool{}
		rests := map[int]int{}
		for range 400 {
			now += r.IntN(2)
			if r.IntN(2) == 0 && len(lent) > 0 {
				port := slices.Sorted(maps.Keys(lent))[r.IntN(len(lent))]
				gives(t, p, one, now, port)
				delete(lent, port)
				rests[port] = now + rest
				continue
			}
			free := 0
			for port := low; port < low+many; port++ {
				if !lent[port] && rests[port] <= now {
					free++
				}
			}
			port, e := p.Take(one, now)
			if (free > 0) != (e == api.OK) {
				t.Fatalf("Take at %d = %d, %d, where %d may be lent", now, port, e, free)
			}
			if e != api.OK {
				continue
			}
			if lent[port] || rests[port] > now || port < low || port >= low+many {
				t.Fatalf("Take at %d = %d; lent %v, rests up to %d", now, port, lent[port], rests[port])
			}
			lent[port] = true
		}
	}
}

// P15.3: in each round each port that may be lent is lent once.
func TestAllInRound(t *testing.T) {
	for _, many := range []int{1, 2, 7, 64, 130} {
		p := made(t, 500, many, 3)
		for now := 0; now < 60; now += 3 {
			got := []int{}
			for range many {
				port, e := p.Take(one, now)
				if e != api.OK {
					t.Fatalf("Take at %d = %d, %d", now, port, e)
				}
				got = append(got, port)
			}
			none(t, p, one, now)
			gives(t, p, one, now, got...)
			none(t, p, one, now+2)
			slices.Sort(got)
			if !slices.Equal(got, upTo(500, 500+many)) {
				t.Fatalf("at %d there were lent %v", now, got)
			}
		}
	}
}

// P1 and P4 of the rules: Take ends soon enough while nearly all other ports rest, and while one rests the longer, each time.
func TestManyRest(t *testing.T) {
	p := made(t, 1, 65535, 50)
	for port := 1; port < 65536; port++ {
		takes(t, p, one, 0, port)
	}
	for port := 1; port < 40000; port++ {
		gives(t, p, one, 100, port)
	}
	for port := 40000; port < 65536; port++ {
		gives(t, p, one, 0, port)
	}
	for port := 40000; port < 65536; port++ {
		takes(t, p, one, 50, port)
	}
	none(t, p, one, 149)
	for port := 1; port < 40000; port++ {
		takes(t, p, one, 150, port)
	}
	none(t, p, one, math.MaxInt64)
}

// P15.1: many keys are there at one time, each with all ports.
func TestManyKeys(t *testing.T) {
	p := made(t, 1, 65535, 10)
	keyOf := func(i int) Key {
		return Key{Proto: i % 3, Nat: uint32(i / 3 % 7), Addr: uint32(i / 21 % 11), Port: i / 231}
	}
	for i := range 30000 {
		takes(t, p, keyOf(i), 0, upTo(1, 2+i%3)...)
		gives(t, p, keyOf(i), i, 1)
	}
	for i := range 30000 {
		k := keyOf(i)
		if p.Lent(k, 1) || p.Lent(k, 2) != (i%3 > 0) || p.Lent(k, 3) != (i%3 > 1) || p.Lent(k, 4) || p.Rests(k, 2, 0) {
			t.Fatalf("of many keys %v has other ports", k)
		}
		if !p.Rests(k, 1, i+9) || p.Rests(k, 1, i+10) {
			t.Fatalf("of many keys %v has a port that rests up to another time", k)
		}
	}
}

// P15.2: to ask changes nothing, and P4 of the rules: who is asked much answers as who is not.
func TestAskChangesNothing(t *testing.T) {
	r := rand.New(rand.NewPCG(19, 2026))
	for range 100 {
		low, many, rest := 1+r.IntN(1000), 1+r.IntN(6), r.IntN(8)
		asked, clean := made(t, low, many, rest), made(t, low, many, rest)
		for now := range 60 {
			for _, k := range alike {
				for port := low - 1; port <= low+many; port++ {
					asked.Lent(k, port)
					for _, late := range []int{now, now + 5, now + 100, 0, math.MaxInt64, math.MinInt64} {
						asked.Rests(k, port, late)
					}
				}
				asked.Lent(k, wrong[r.IntN(len(wrong))])
				asked.Rests(k, wrong[r.IntN(len(wrong))], now)
			}
			sameStep(t, r, asked, clean, low, many, now)
		}
		sameAll(t, asked, clean, low, many)
	}
}

// P2 of the rules: a Give that answers false changes nothing, nor does a Take that finds none.
func TestFalseChangesNothing(t *testing.T) {
	r := rand.New(rand.NewPCG(20, 2026))
	for range 100 {
		low, many, rest := 1+r.IntN(1000), 1+r.IntN(6), r.IntN(8)
		asked, clean := made(t, low, many, rest), made(t, low, many, rest)
		for now := range 60 {
			for _, k := range alike {
				for port := low - 1; port <= low+many; port++ {
					if !asked.Lent(k, port) {
						refused(t, asked, k, r.IntN(100), port)
					}
				}
				refused(t, asked, k, r.IntN(100), wrong[r.IntN(len(wrong))])
				if e := took(clean, k, low, many, now); e != api.OK {
					none(t, asked, k, now)
				}
			}
			sameStep(t, r, asked, clean, low, many, now)
		}
		sameAll(t, asked, clean, low, many)
	}
}

// took tells what Take would answer at this time, and leaves it undone: ErrPorts where all are lent, or rest above now.
func took(p *Ports, k Key, low, many, now int) api.Errno {
	for port := low; port < low+many; port++ {
		if !p.Lent(k, port) && !p.Rests(k, port, now) {
			return api.OK
		}
	}
	return api.ErrPorts
}

// sameStep does the same to both, and holds what they answer against each other.
func sameStep(t *testing.T, r *rand.Rand, a, b *Ports, low, many, now int) {
	t.Helper()
	k, port := alike[r.IntN(3)], low+r.IntN(many)
	if r.IntN(2) == 0 {
		if a.Give(k, port, now) != b.Give(k, port, now) {
			t.Fatalf("Give(%v, %d, %d) is another one", k, port, now)
		}
		return
	}
	got, e := a.Take(k, now)
	if want, right := b.Take(k, now); got != want || e != right {
		t.Fatalf("Take(%v, %d) = %d, %d; want %d, %d", k, now, got, e, want, right)
	}
}

// sameAll holds all that is told of both against each other, and all ports that they still lend.
func sameAll(t *testing.T, a, b *Ports, low, many int) {
	t.Helper()
	for _, k := range alike {
		for port := low - 1; port <= low+many; port++ {
			for now := range 80 {
				if a.Lent(k, port) != b.Lent(k, port) || a.Rests(k, port, now) != b.Rests(k, port, now) {
					t.Fatalf("of %v, %d is lent, or rests, in one alone", k, port)
				}
			}
		}
		for range many + 1 {
			got, e := a.Take(k, math.MaxInt64)
			if want, right := b.Take(k, math.MaxInt64); got != want || e != right {
				t.Fatalf("in the end, Take(%v) = %d, %d; want %d, %d", k, got, e, want, right)
			}
		}
	}
}

// history is what ports answer to a row of calls.
func history(low, many, rest int) []int {
	p, _ := New(low, many, rest)
	r := rand.New(rand.NewPCG(uint64(low), uint64(many)))
	l := []int{}
	bit := func(b bool) {
		if b {
			l = append(l, 1)
		} else {
			l = append(l, 0)
		}
	}
	for now := range 1500 {
		k := alike[r.IntN(len(alike))]
		port, e := p.Take(k, now/2)
		l = append(l, port, int(e))
		other := low + r.IntN(many)
		bit(p.Lent(k, other))
		bit(p.Give(k, other, now/2))
		bit(p.Rests(k, other, now/2+r.IntN(20)))
	}
	return l
}

// P4 of the rules: other ports that were made so and to which the same was done answer the same, also beside others, and at the same time.
func TestSameAgain(t *testing.T) {
	sorts := [][3]int{{1, 1, 0}, {1000, 2, 5}, {60000, 9, 1}, {1, 65535, 3}, {500, 30, 40}}
	var first [][]int
	for _, c := range sorts {
		first = append(first, history(c[0], c[1], c[2]))
	}
	var group sync.WaitGroup
	for range 6 {
		for at, c := range sorts {
			group.Go(func() {
				if !slices.Equal(history(c[0], c[1], c[2]), first[at]) {
					t.Errorf("New(%v), done to the same again, answers others", c)
				}
			})
		}
	}
	group.Wait()
}

// P3 and P4 of the rules: two that were made share nothing.
func TestApart(t *testing.T) {
	a, b := made(t, 1000, 3, 10), made(t, 1000, 3, 10)
	takes(t, a, one, 0, 1000, 1001)
	lentAre(t, b, one)
	takes(t, b, one, 0, 1000)
	gives(t, a, one, 0, 1000, 1001)
	lentAre(t, b, one, 1000)
	restAre(t, b, one, 0)
	restAre(t, a, one, 9, 1000, 1001)
	takes(t, b, one, 50, 1001, 1002)
	restAre(t, a, one, 0, 1000, 1001)
	none(t, b, one, 50)
	takes(t, a, one, 50, 1002, 1000, 1001)
}
