package pool_test

import (
	"iter"
	"math/rand/v2"
	"testing"

	"empennage/api"
	"empennage/pool"
)

// record is what a pool is to be, by which slots are not free, and which ones were taken.
type record struct {
	len   int
	held  map[int]int // whose they are
	takes []int
}

func newRecord(slots int) *record { return &record{len: slots, held: map[int]int{}} }

func (m *record) Take(owner int) (int, api.Errno) {
	for i := range m.len {
		if _, is := m.held[i]; !is {
			m.held[i] = owner
			m.takes = append(m.takes, i)
			return i, api.NoError
		}
	}
	return -1, api.ErrFull
}

func (m *record) Give(slot, owner int) api.Errno {
	o, is := m.held[slot]
	switch {
	case slot < 0 || slot >= m.len:
		return api.ErrRange
	case !is:
		return api.ErrEmpty
	case o != owner:
		return api.NotAvailable
	}
	delete(m.held, slot)
	return api.NoError
}

func (m *record) Let(owner int) int {
	n := 0
	for i := range m.len {
		if o, is := m.held[i]; is && o == owner {
			delete(m.held, i)
			n++
		}
	}
	return n
}

func (m *record) slots() []slot {
	l := make([]slot, m.len)
	for _, i := range m.takes {
		l[i].turn++
	}
	for i, o := range m.held {
		l[i].owner, l[i].taken = o, true
	}
	return l
}

// The kinds of calls that turn a pool.
const (
	aTake = iota
	aGive
	aLet
)

// call is one that turns a pool.
type call struct{ kind, slot, owner int }

// calls are all that turn a pool of so many slots and have one of these owners; of slots that it hasn't the next one.
func calls(slots int, owners []int) []call {
	var l []call
	for _, o := range owners {
		l = append(l, call{kind: aTake, owner: o}, call{kind: aLet, owner: o})
		for i := range slots + 1 {
			l = append(l, call{aGive, i, o})
		}
	}
	return l
}

// rows are all rows of so many of these calls; each is gone when the next one comes.
func rows(l []call, length int) iter.Seq[[]call] {
	return func(yield func([]call) bool) {
		row := make([]call, length)
		var put func(i int) bool
		put = func(i int) bool {
			if i == length {
				return yield(row)
			}
			for _, c := range l {
				row[i] = c
				if !put(i + 1) {
					return false
				}
			}
			return true
		}
		put(0)
	}
}

// few are the pools of which all rows are asked: how many slots, the owners, the length of the rows.
func few() iter.Seq2[int, []call] {
	return func(yield func(int, []call) bool) {
		for _, x := range []struct {
			slots, length int
			owners        []int
		}{
			{0, 4, []int{0, 1}}, {1, 6, []int{0}}, {1, 5, []int{0, 1}}, {1, 4, []int{-1, 0, 7}},
			{2, 6, []int{0}}, {2, 5, []int{0, 1}}, {2, 4, []int{5, 0, -5}}, {3, 5, []int{0, 7}}, {3, 4, []int{3, 0, 1}},
		} {
			for length := range x.length + 1 {
				for row := range rows(calls(x.slots, x.owners), length) {
					if !yield(x.slots, row) {
						return
					}
				}
			}
		}
	}
}

// drawn is calls of a pool of so many slots: the pool is full, and empty, in turn.
func drawn(random *rand.Rand, slots, length int) []call {
	var l []call
	who := []int{0, 1, random.IntN(100) - 50, random.Int(), -random.Int()}
	for len(l) < length {
		takes := random.IntN(10)
		for range random.IntN(3*slots + 3) {
			c := call{kind: aTake, owner: who[random.IntN(len(who))]}
			if random.IntN(10) >= takes {
				c.kind, c.slot = aGive, random.IntN(slots+2)-1
			}
			l = append(l, c)
		}
		if random.IntN(3) == 0 {
			l = append(l, call{kind: aLet, owner: who[random.IntN(len(who))]})
		}
	}
	return l
}

// drawnRows are rows for pools of each number of slots.
func drawnRows(seed uint64) iter.Seq2[int, []call] {
	random := rand.New(rand.NewPCG(seed, seed))
	return func(yield func(int, []call) bool) {
		for slots := range most + 1 {
			for range 12 {
				if !yield(slots, drawn(random, slots, 400)) {
					return
				}
			}
		}
	}
}

// turned is a pool, or a record of one.
type turned interface {
	Take(owner int) (int, api.Errno)
	Give(slot, owner int) api.Errno
	Let(owner int) int
}

// answer makes the call, and tells what it answers.
func answer(p turned, c call) (int, api.Errno) {
	switch c.kind {
	case aTake:
		return p.Take(c.owner)
	case aGive:
		return 0, p.Give(c.slot, c.owner)
	}
	return p.Let(c.owner), api.NoError
}

// alike makes the call of both, and fails unless they answer it alike.
func alike(t *testing.T, p, q turned, c call) {
	t.Helper()
	n, e := answer(p, c)
	if m, f := answer(q, c); n != m || e != f {
		t.Errorf("%v = %d, %v, not %d, %v", c, n, e, m, f)
	}
}

func TestEachRowAnswersAsTheRecord(t *testing.T) {
	t.Parallel()
	for slots, row := range few() {
		p, m := pool.New(slots), newRecord(slots)
		for _, c := range row {
			alike(t, p, m, c)
		}
		// Only behind the last call: a shorter row asked behind the others.
		is(t, "beside a record", p, m.slots()...)
		if t.Failed() {
			t.Fatalf("%d slots: the row %v", slots, row)
		}
	}
}

func TestDrawnRowsAnswerAsTheRecord(t *testing.T) {
	t.Parallel()
	for slots, row := range drawnRows(17) {
		p, m := pool.New(slots), newRecord(slots)
		for i, c := range row {
			alike(t, p, m, c)
			is(t, "beside a record", p, m.slots()...)
			if t.Failed() {
				t.Fatalf("%d slots: the row %v", slots, row[:i+1])
			}
		}
	}
}

func TestWhatIsAskedBetweenTurnsNothing(t *testing.T) {
	t.Parallel()
	for slots, row := range drawnRows(19) {
		p, q := pool.New(slots), pool.New(slots)
		for i, c := range row {
			// The one is asked, the other one isn't.
			p.Owner(c.slot)
			p.Turn(c.slot)
			p.Of(c.owner)
			p.Free()
			p.Len()
			alike(t, p, q, c)
			if t.Failed() {
				t.Fatalf("%d slots: the row %v", slots, row[:i+1])
			}
		}
	}
}
