package cursor

import (
	"math"
	"math/rand/v2"
	"slices"
	"sort"
	"sync"
	"testing"

	"weighbridge/api"
)

// wrong are numbers that no cursor has, and as many as which no cursor may have.
var wrong = []int{
	math.MinInt64, math.MinInt64 + 1, math.MinInt64 + 64, math.MinInt32 - 1, math.MinInt32, -1 << 40, -65537, -65536, -65535, -256, -129, -128, -65, -64, -63, -2, -1,
	65537, 65538, 131071, 131072, 131073, math.MaxInt32, math.MaxInt32 + 1, 1<<32 - 1, 1 << 32, 1<<32 + 1, 1 << 40, 1 << 62, math.MaxInt64 - 64, math.MaxInt64 - 1, math.MaxInt64,
}

// sizes are as many numbers as a cursor may have, the fewest, the most, and around powers of two.
var sizes = []int{1, 2, 3, 4, 5, 7, 8, 9, 31, 32, 33, 63, 64, 65, 66, 127, 128, 129, 200, 255, 256, 257, 4095, 4096, 4097, 65472, 65473, 65534, 65535, 65536}

// words says the chapter over again, word by word.
type words struct {
	n, cursor int
	used      []bool
}

func newWords(n int) *words { return &words{n: n, used: make([]bool, n)} }

func (m *words) take() (int, bool) {
	for k := 0; k < m.n; k++ {
		i := (m.cursor + k) % m.n
		if m.used[i] {
			continue
		}
		m.used[i] = true
		m.cursor = i + 1
		if i == m.n-1 {
			m.cursor = 0
		}
		return i, true
	}
	return 0, false
}

func (m *words) isUsed(i int) bool { return 0 <= i && i < m.n && m.used[i] }

func (m *words) free(i int) bool {
	if !m.isUsed(i) {
		return false
	}
	m.used[i] = false
	return true
}

func (m *words) many() int {
	many := 0
	for i := range m.n {
		if m.used[i] {
			many++
		}
	}
	return many
}

// queue says the chapter over again in another way: as the numbers that are not used, rising, and the last one that was given out.
type queue struct {
	n, last int
	there   []int
}

func newQueue(n int) *queue { return &queue{n: n, last: -1, there: upTo(n)} }

func (q *queue) take() (int, bool) {
	if len(q.there) == 0 {
		return 0, false
	}
	at := sort.Search(len(q.there), func(k int) bool { return q.there[k] > q.last })
	if at == len(q.there) {
		at = 0
	}
	q.last = q.there[at]
	q.there = slices.Delete(q.there, at, at+1)
	return q.last, true
}

func (q *queue) free(i int) bool {
	at, there := slices.BinarySearch(q.there, i)
	if i < 0 || i >= q.n || there {
		return false
	}
	q.there = slices.Insert(q.there, at, i)
	return true
}

// upTo is the numbers from 0 on up to ahead of n.
func upTo(n int) []int {
	l := make([]int, n)
	for i := range l {
		l[i] = i
	}
	return l
}

// made is New where it may not fail.
func made(t *testing.T, n int) *Cursor {
	t.Helper()
	c, e := New(n)
	if c == nil || e != api.OK {
		t.Fatalf("New(%d) = %v, %d", n, c != nil, e)
	}
	return c
}

// takes is Take of each, in this order.
func takes(t *testing.T, c *Cursor, l ...int) {
	t.Helper()
	for _, want := range l {
		if i, ok := c.Take(); i != want || !ok {
			t.Fatalf("Take() = %d, %v; want %d", i, ok, want)
		}
	}
}

// none is Take where all are used.
func none(t *testing.T, c *Cursor) {
	t.Helper()
	if i, ok := c.Take(); i != 0 || ok {
		t.Fatalf("Take() = %d, %v, where all are used", i, ok)
	}
}

// frees is Free of each, where each is used.
func frees(t *testing.T, c *Cursor, l ...int) {
	t.Helper()
	for _, i := range l {
		if !c.Free(i) {
			t.Fatalf("Free(%d) = false", i)
		}
	}
}

// refused is Free of each, where none is used.
func refused(t *testing.T, c *Cursor, l ...int) {
	t.Helper()
	for _, i := range l {
		if c.Free(i) {
			t.Fatalf("Free(%d) = true, where it is not used", i)
		}
	}
}

// usedOf is those of n numbers that are used, by Used of each.
func usedOf(c *Cursor, n int) []int {
	l := []int{}
	for i := range n {
		if c.Used(i) {
			l = append(l, i)
		}
	}
	return l
}

// stands holds that just these of n numbers are used, rising, by Used and by Len, and none that the cursor does not have.
func stands(t *testing.T, c *Cursor, n int, want []int) {
	t.Helper()
	got := usedOf(c, n)
	if n < 70 && !slices.Equal(got, want) {
		t.Fatalf("of %d, %v are used; want %v", n, got, want)
	}
	if c.Len() != len(want) || !slices.Equal(got, want) {
		t.Fatalf("of %d, %d are used, and Len() = %d; want %d", n, len(got), c.Len(), len(want))
	}
	for _, i := range append(slices.Clone(wrong), n, n+1, 2*n, -n, n+63, n+64, n+65536, 65536, 1<<32+n-1) {
		if c.Used(i) {
			t.Fatalf("of %d, Used(%d) = true", n, i)
		}
	}
}

// at is a cursor of n numbers that stands at this one, with all of them used.
func at(t *testing.T, n, cursor int) *Cursor {
	t.Helper()
	c := made(t, n)
	takes(t, c, upTo(n)...)
	if cursor > 0 {
		frees(t, c, cursor-1)
		takes(t, c, cursor-1)
	}
	return c
}

// rig is a cursor, and the two that say it over again.
type rig struct {
	c *Cursor
	m *words
	q *queue
}

func newRig(t *testing.T, n int) *rig {
	t.Helper()
	return &rig{c: made(t, n), m: newWords(n), q: newQueue(n)}
}

// fullRig is a rig whose cursor stands at this number, with all of them used.
func fullRig(t *testing.T, n, cursor int) *rig {
	t.Helper()
	x := &rig{c: at(t, n, cursor), m: newWords(n), q: &queue{n: n, last: cursor - 1}}
	x.m.cursor = cursor
	for i := range n {
		x.m.used[i] = true
	}
	return x
}

// state is a rig whose cursor stands at this number, of which just those are used whose bit is set.
func state(t *testing.T, n, cursor, used int) *rig {
	t.Helper()
	x := fullRig(t, n, cursor)
	for i := range n {
		if used>>i&1 == 0 {
			x.free(t, i)
		}
	}
	return x
}

func (x *rig) take(t *testing.T) {
	t.Helper()
	want, right := x.m.take()
	if i, ok := x.q.take(); i != want || ok != right {
		t.Fatalf("said over again in another way, Take() = %d, %v; want %d, %v", i, ok, want, right)
	}
	if i, ok := x.c.Take(); i != want || ok != right {
		t.Fatalf("of %d, Take() = %d, %v; want %d, %v", x.m.n, i, ok, want, right)
	}
}

func (x *rig) free(t *testing.T, i int) {
	t.Helper()
	want := x.m.free(i)
	if ok := x.q.free(i); ok != want {
		t.Fatalf("said over again in another way, Free(%d) = %v; want %v", i, ok, want)
	}
	if ok := x.c.Free(i); ok != want {
		t.Fatalf("of %d, Free(%d) = %v; want %v", x.m.n, i, ok, want)
	}
}

// do frees this number, or takes one where it is -2.
func (x *rig) do(t *testing.T, what int) {
	t.Helper()
	if what == -2 {
		x.take(t)
		return
	}
	x.free(t, what)
}

// look holds all that is asked of the cursor against what is said over again.
func (x *rig) look(t *testing.T) {
	t.Helper()
	for i := -2; i < x.m.n+2; i++ {
		if got, want := x.c.Used(i), x.m.isUsed(i); got != want {
			t.Fatalf("of %d, Used(%d) = %v; want %v", x.m.n, i, got, want)
		}
	}
	if got, want := x.c.Len(), x.m.many(); got != want {
		t.Fatalf("of %d, Len() = %d; want %d", x.m.n, got, want)
	}
}

// P14.1: the chapter's own example.
func TestChapter(t *testing.T) {
	c, e := New(2)
	if e != api.OK {
		t.Fatalf("New(2) = %d", e)
	}
	for k, want := range []int{0, 1, 0} {
		if i, ok := c.Take(); i != want || ok != (k < 2) {
			t.Errorf("Take %d = %d, %v", k+1, i, ok)
		}
	}
}

// P14.1: as many numbers as there may not be; nothing is made.
func TestNewWrong(t *testing.T) {
	for _, n := range append(slices.Clone(wrong), 0, api.MaxPorts+1, -api.MaxPorts, api.MaxPorts+1<<32, 1+1<<32, 1-1<<32) {
		if c, e := New(n); c != nil || e != api.ErrArg {
			t.Errorf("New(%d) = %v, %d", n, c != nil, e)
		}
	}
}

// P14.1 and P14.2: at first none is used, and the cursor is at 0.
func TestNew(t *testing.T) {
	for _, n := range append(slices.Clone(sizes), api.MaxPorts) {
		c := made(t, n)
		stands(t, c, n, []int{})
		refused(t, c, 0, n-1, n/2)
		takes(t, c, 0)
		stands(t, c, n, []int{0})
	}
}

// P14.1 and P14.2: all are taken, rising, each is used from then on, and then none is there, again and again.
func TestTakeAll(t *testing.T) {
	for _, n := range sizes {
		c := made(t, n)
		for i := range n {
			if c.Used(i) || c.Len() != i {
				t.Fatalf("of %d, ahead of Take: Used(%d) = %v, Len() = %d", n, i, c.Used(i), c.Len())
			}
			takes(t, c, i)
			if !c.Used(i) || c.Len() != i+1 || i > 0 && !c.Used(i-1) || c.Used(i+1) {
				t.Fatalf("of %d, behind Take of %d: Used %v, Len() = %d", n, i, c.Used(i), c.Len())
			}
		}
		for range 3 {
			none(t, c)
			stands(t, c, n, upTo(n))
		}
	}
}

// P14.1: with one number alone.
func TestOne(t *testing.T) {
	c := made(t, 1)
	for range 5 {
		stands(t, c, 1, []int{})
		refused(t, c, 0, 1, -1)
		takes(t, c, 0)
		stands(t, c, 1, []int{0})
		none(t, c)
		none(t, c)
		refused(t, c, 1, -1, 64)
		stands(t, c, 1, []int{0})
		frees(t, c, 0)
	}
}

// P14.1: where just one is free, wherever it is, and wherever the cursor is: at it, at the one ahead, at the one behind, and elsewhere; the cursor is behind it then.
func TestTakeLast(t *testing.T) {
	for _, n := range []int{1, 2, 3, 7, 63, 64, 65, 127, 128, 129, 130} {
		for cursor := range n {
			c := at(t, n, cursor)
			for only := range n {
				frees(t, c, only)
				takes(t, c, only)
				none(t, c)
				next := (only + 1) % n
				frees(t, c, only)
				if next != only {
					frees(t, c, next)
					takes(t, c, next) // as the cursor is behind the one that was taken
				}
				takes(t, c, only)
				if cursor > 0 { // back to where the cursor was
					frees(t, c, cursor-1)
					takes(t, c, cursor-1)
				} else {
					frees(t, c, n-1)
					takes(t, c, n-1)
				}
			}
		}
	}
}

// P14.1: where just some in a row are free, wherever they begin and end, just these are given.
func TestTakeRow(t *testing.T) {
	for _, n := range []int{1, 5, 64, 65, 130, 200} {
		all := upTo(n)
		c := at(t, n, 0)
		for first := range n {
			for end := first + 1; end <= n; end++ {
				frees(t, c, all[first:end]...)
				takes(t, c, all[first:end]...)
				none(t, c)
				frees(t, c, n-1)
				takes(t, c, n-1) // the cursor is at 0 again
			}
		}
		stands(t, c, n, all)
	}
}

// P14.1: the same at the edges of as many as there may be.
func TestTakeLastGreat(t *testing.T) {
	for _, n := range []int{4096, 65472, 65473, 65535, 65536} {
		edges := []int{0, 1, 62, 63, 64, 65, n/2 - 1, n / 2, n - 65, n - 64, n - 63, n - 2, n - 1}
		for _, cursor := range edges {
			c := at(t, n, cursor)
			for _, only := range edges {
				frees(t, c, only)
				takes(t, c, only)
				if only != cursor-1 && cursor > 0 {
					frees(t, c, cursor-1)
					takes(t, c, cursor-1)
				}
			}
			stands(t, c, n, upTo(n))
		}
	}
}

// P14.1: where just the number at the cursor is used, the next one is given, and behind the last one 0.
func TestTakeBesideOne(t *testing.T) {
	for _, n := range []int{2, 3, 8, 63, 64, 65, 129, 65535, 65536} {
		for _, cursor := range []int{0, 1, n/2 - 1, n / 2, n - 2, n - 1} {
			if cursor < 0 {
				continue
			}
			c := at(t, n, cursor)
			for i := range n {
				if i != cursor {
					frees(t, c, i)
				}
			}
			stands(t, c, n, []int{cursor})
			takes(t, c, (cursor+1)%n)
			if n > 2 {
				takes(t, c, (cursor+2)%n)
			}
		}
	}
}

// P14.1: behind the last number it goes on from 0: at once, where 0 is free; with the first free one, where it is not.
func TestTakeRound(t *testing.T) {
	for _, n := range sizes[4:] {
		c := made(t, n)
		takes(t, c, upTo(n)...)
		frees(t, c, 1, n-1, 3, 0)
		takes(t, c, 0, 1, 3, n-1) // the cursor was at 0
		none(t, c)
		frees(t, c, n-2, 2)
		takes(t, c, 2, n-2)
		frees(t, c, n-1, 0)
		takes(t, c, n-1, 0)
		frees(t, c, 0, 2)
		takes(t, c, 2, 0)
		stands(t, c, n, upTo(n))
	}
	c := made(t, 4)
	for range 3 {
		for i := range 4 { // one is used at a time, and yet it goes round
			takes(t, c, i)
			stands(t, c, 4, []int{i})
			frees(t, c, i)
		}
	}
}

// P14.1: some are used, so that they are gone over.
func TestTakeSome(t *testing.T) {
	c := at(t, 8, 0)
	frees(t, c, 1, 4, 5, 7)
	takes(t, c, 1)
	stands(t, c, 8, []int{0, 1, 2, 3, 6})
	takes(t, c, 4, 5)
	frees(t, c, 6, 0)
	takes(t, c, 6, 7, 0)
	none(t, c)
	stands(t, c, 8, upTo(8))
	great := at(t, api.MaxPorts, 0)
	frees(t, great, 65535, 64, 1000, 63, 40000)
	takes(t, great, 63, 64, 1000, 40000, 65535)
	none(t, great)
}

// P14.2: Free of one that is used, of it again, and of one that never was.
func TestFree(t *testing.T) {
	for _, n := range sizes {
		c := made(t, n)
		many := n/2 + 1
		takes(t, c, upTo(many)...)
		if many < n {
			refused(t, c, many, n-1)
		}
		for _, i := range []int{0, many / 2, many - 1} {
			if c.Used(i) {
				frees(t, c, i)
				many--
			}
			refused(t, c, i, i)
			if c.Used(i) || c.Len() != many {
				t.Fatalf("of %d, behind Free(%d): Used %v, Len() = %d; want %d", n, i, c.Used(i), c.Len(), many)
			}
		}
	}
}

// P14.2: Free of each, in some orders: it alone is not used from then on.
func TestFreeEach(t *testing.T) {
	for _, n := range []int{1, 2, 3, 63, 64, 65, 130} {
		order := upTo(n)
		for range 4 {
			c := at(t, n, n/3)
			m := newWords(n)
			for range n {
				m.take()
			}
			for k, i := range order {
				frees(t, c, i)
				m.free(i)
				for other := range n {
					if c.Used(other) != m.isUsed(other) {
						t.Fatalf("of %d, behind Free(%d): Used(%d) = %v", n, i, other, c.Used(other))
					}
				}
				if c.Len() != n-1-k {
					t.Fatalf("of %d, behind %d times Free: Len() = %d", n, k+1, c.Len())
				}
			}
			refused(t, c, order...)
			slices.Reverse(order)
			order = append(order[n/2:], order[:n/2]...)
		}
	}
}

// P14.2: Free and Used of numbers that there are not: false, and nothing has changed, with none, some and all of them used.
func TestFreeWrong(t *testing.T) {
	for _, n := range sizes {
		for _, many := range []int{0, 1, n / 2, n - 1, n} {
			c := made(t, n)
			takes(t, c, upTo(many)...)
			for _, i := range append(slices.Clone(wrong), -1, n, n+1, n+63, n+64, n+65536, -n, -n-1, 1<<32, 1<<32+n-1, -1<<32) {
				if c.Free(i) || c.Used(i) {
					t.Fatalf("of %d, %d is freed, or used", n, i)
				}
			}
			stands(t, c, n, upTo(many))
			if many < n {
				takes(t, c, many)
			} else {
				none(t, c)
			}
		}
	}
}

// P14.2 and P14.3: after Free the cursor stays: one that it went over is given again just when it comes round, one that it still comes to sooner.
func TestFreeStays(t *testing.T) {
	c := made(t, 6)
	takes(t, c, 0, 1, 2)
	frees(t, c, 1)
	takes(t, c, 3)
	frees(t, c, 2, 0)
	takes(t, c, 4, 5, 0, 1, 2)
	none(t, c)
	frees(t, c, 2) // the cursor is at 3
	frees(t, c, 5)
	frees(t, c, 3)
	takes(t, c, 3, 5, 2)
	frees(t, c, 1, 4)
	takes(t, c, 4, 1)
	frees(t, c, 0, 1, 2, 3, 4, 5) // the last one that was given out was 1
	takes(t, c, 2, 3, 4, 5, 0, 1)
	none(t, c)
	last := made(t, 3)
	takes(t, last, 0)
	frees(t, last, 0)
	takes(t, last, 1)
	frees(t, last, 1)
	takes(t, last, 2)
	frees(t, last, 2)
	takes(t, last, 0, 1, 2)
}

// P14.2: Len with none used, with some, with all, and behind answers of false.
func TestLen(t *testing.T) {
	c := made(t, 65)
	holds := func(want int) {
		t.Helper()
		for range 2 {
			if got := c.Len(); got != want {
				t.Fatalf("Len() = %d; want %d", got, want)
			}
		}
	}
	holds(0)
	refused(t, c, 0, 64, 65, -1)
	holds(0)
	takes(t, c, 0, 1, 2)
	holds(3)
	refused(t, c, 3, -1, 65)
	holds(3)
	frees(t, c, 1)
	holds(2)
	refused(t, c, 1)
	holds(2)
	takes(t, c, upTo(65)[3:]...)
	holds(64)
	takes(t, c, 1)
	holds(65)
	none(t, c)
	holds(65)
	refused(t, c, 65, -1)
	holds(65)
	frees(t, c, upTo(65)...)
	holds(0)
}

// P14.1 and P14.2: wherever the cursor stands, and whichever are used, all that can be done once, and Take from then on, round and round.
func TestAllStates(t *testing.T) {
	for n := 1; n <= 7; n++ {
		for cursor := range n {
			for used := range 1 << n {
				for what := -2; what <= n; what++ {
					x := state(t, n, cursor, used)
					x.look(t)
					x.do(t, what)
					x.look(t)
					for range n + 2 {
						x.take(t)
					}
					x.look(t)
				}
			}
		}
	}
}

// P14.1 and P14.2: all that can be done from the beginning on, up to a number of times.
func TestAllSmall(t *testing.T) {
	for n, times := range []int{0, 7, 6, 6, 5, 5} {
		if n == 0 {
			continue
		}
		done := make([]int, 0, times)
		var deeper func()
		deeper = func() {
			x := newRig(t, n)
			for _, what := range done {
				x.do(t, what)
			}
			x.look(t)
			if len(done) == times {
				return
			}
			for what := -2; what <= n; what++ {
				done = append(done, what)
				deeper()
				done = done[:len(done)-1]
			}
		}
		deeper()
	}
}

// P14.1 and P14.2: long histories, with nearly none, some and nearly all used, and wrong numbers between.
func TestMany(t *testing.T) {
	r := rand.New(rand.NewPCG(14, 2026))
	for range 400 {
		n := 1 + r.IntN(1+r.IntN(300))
		x := newRig(t, n)
		down := r.IntN(10)
		for range 4 * n {
			switch k := r.IntN(11); {
			case k == 10:
				x.free(t, wrong[r.IntN(len(wrong))])
			case k < down:
				x.free(t, r.IntN(n))
			default:
				x.take(t)
			}
		}
		x.look(t)
		for range n + 1 {
			x.take(t)
		}
		x.look(t)
	}
}

// P14.1 and P14.2: the same with as many as there may be.
func TestGreat(t *testing.T) {
	r := rand.New(rand.NewPCG(15, 2026))
	for _, n := range []int{65536, 65473} {
		x := fullRig(t, n, r.IntN(n))
		x.look(t)
		for _, down := range []int{9, 5, 2, 8} {
			for range 25000 {
				if r.IntN(10) < down {
					x.free(t, r.IntN(n))
				} else {
					x.take(t)
				}
			}
			x.look(t)
		}
	}
}

// P1 of the rules: Take ends soon enough also where the only free one is ahead of the cursor, each time.
func TestLongWay(t *testing.T) {
	n := api.MaxPorts
	c := at(t, n, 0)
	for i := n - 1; i >= 0; i-- { // the cursor is at i and one
		frees(t, c, i)
		takes(t, c, i)
	}
	none(t, c)
	stands(t, c, n, upTo(n))
}

// P14.3: one that is freed is given again when the cursor comes round: behind all free ones between, and once in a round.
func TestComesRound(t *testing.T) {
	r := rand.New(rand.NewPCG(16, 2026))
	for range 2000 {
		n := 1 + r.IntN(1+r.IntN(200))
		cursor := r.IntN(n)
		c := at(t, n, cursor)
		for range r.IntN(2 * n) {
			c.Free(r.IntN(n))
		}
		i := r.IntN(n)
		c.Free(i)
		round := []int{}
		for k := range n {
			if other := (cursor + k) % n; !c.Used(other) {
				round = append(round, other)
			}
		}
		turn := slices.Index(round, i)
		for k, want := range round {
			if c.Used(i) != (k > turn) {
				t.Fatalf("of %d, with the cursor at %d, %d is not given again at its turn", n, cursor, i)
			}
			takes(t, c, want)
		}
		none(t, c)
	}
}

// P14.3: one that is freed while others are freed too, and taken, is not passed by, nor are others kept for it.
func TestComesRoundAmong(t *testing.T) {
	r := rand.New(rand.NewPCG(17, 2026))
	for range 300 {
		n := 2 + r.IntN(150)
		cursor := r.IntN(n)
		c := at(t, n, cursor)
		i := r.IntN(n)
		frees(t, c, i)
		far := (i - cursor + n) % n // how far the cursor has to go
		for {
			c.Free(r.IntN(n))
			got, ok := c.Take()
			if !ok {
				t.Fatal("Take() = false, where one is free")
			}
			way := (got - cursor + n) % n
			if way > far {
				t.Fatalf("of %d, with the cursor at %d, %d is given ahead of %d", n, cursor, got, i)
			}
			if way == far {
				break
			}
			cursor, far = (got+1)%n, far-way-1
		}
	}
}

// P2 of the rules: after an answer of false all is as it was, the cursor too.
func TestFalseChangesNothing(t *testing.T) {
	r := rand.New(rand.NewPCG(18, 2026))
	for range 200 {
		n := 1 + r.IntN(130)
		asked, clean := made(t, n), made(t, n)
		for range 3 * n {
			for _, i := range append(slices.Clone(wrong), n, r.IntN(n)) {
				if !asked.Used(i) {
					refused(t, asked, i)
				}
			}
			if asked.Len() == n {
				none(t, asked)
				none(t, asked)
			}
			if asked.Len() != clean.Len() {
				t.Fatalf("of %d, behind answers of false Len() = %d; want %d", n, asked.Len(), clean.Len())
			}
			if i := r.IntN(n); r.IntN(3) == 0 || clean.Len() == n {
				if asked.Free(i) != clean.Free(i) {
					t.Fatalf("of %d, behind answers of false Free(%d) is another one", n, i)
				}
				continue
			}
			i, ok := clean.Take()
			if got, right := asked.Take(); got != i || right != ok {
				t.Fatalf("of %d, behind answers of false Take() = %d, %v; want %d, %v", n, got, right, i, ok)
			}
		}
		stands(t, asked, n, usedOf(clean, n))
	}
}

// history is what is done to a cursor by a rule, and all that it answers meanwhile.
func history(n int) []int {
	c, e := New(n)
	answers := []int{int(e)}
	for k := range 2 * n {
		i, ok := c.Take()
		answers = append(answers, i)
		if ok && k%3 == 0 {
			answers = append(answers, -1)
		}
		if c.Free(k * 7 % (n + 2)) {
			answers = append(answers, -2)
		}
		answers = append(answers, c.Len())
	}
	return append(answers, usedOf(c, n)...)
}

// P4 of the rules: another cursor that was made so and to which the same was done answers the same, also beside others, and at the same time.
func TestSameAgain(t *testing.T) {
	many := []int{1, 2, 64, 65, 300, 65536}
	var first [][]int
	for _, n := range many {
		first = append(first, history(n))
	}
	var group sync.WaitGroup
	for range 4 {
		for k, n := range many {
			group.Go(func() {
				if !slices.Equal(history(n), first[k]) {
					t.Errorf("New(%d), done to the same again, answers others", n)
				}
			})
		}
	}
	group.Wait()
}

// P3 and P4 of the rules: two cursors share nothing, and to be asked changes nothing.
func TestApart(t *testing.T) {
	for _, n := range []int{3, 64, 200, 65536} {
		a, b := made(t, n), made(t, n)
		takes(t, a, 0, 1)
		stands(t, b, n, []int{})
		takes(t, b, 0, 1, 2)
		frees(t, b, 0)
		stands(t, a, n, []int{0, 1})
		frees(t, a, 0, 1)
		for range 3 {
			stands(t, b, n, []int{1, 2})
		}
		stands(t, a, n, []int{})
		takes(t, a, 2)
	}
}

// P14.1: many cursors, few of whose numbers are used, are there at one time, as there is one for each key of the layer behind.
func TestManyCursors(t *testing.T) {
	l := make([]*Cursor, 65536)
	for k := range l {
		l[k] = made(t, api.MaxPorts)
		takes(t, l[k], upTo(k%3+1)...)
	}
	for k, c := range l {
		if c.Len() != k%3+1 || !c.Used(k%3) || c.Used(k%3+1) || c.Used(api.MaxPorts-1) {
			t.Fatalf("of many, the one at %d has others used", k)
		}
	}
}
