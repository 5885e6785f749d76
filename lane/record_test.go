package lane_test

import (
	"iter"
	"math/rand/v2"
	"slices"
	"testing"

	"empennage/api"
	"empennage/lane"
)

// record is what lanes are to be, with a list for each lane.
type record struct {
	lists  [][]api.Message
	places int
}

func newRecord(lanes, places int) *record { return &record{make([][]api.Message, lanes), places} }

func (r *record) Put(m api.Message) api.Errno {
	switch {
	case m.Lane < 0 || m.Lane >= len(r.lists):
		return api.InvalidParam
	case len(r.lists[m.Lane]) == r.places:
		return api.ErrFull
	}
	r.lists[m.Lane] = append(r.lists[m.Lane], copied([]api.Message{m})[0])
	return api.NoError
}

func (r *record) Take() (api.Message, bool) {
	for i, list := range r.lists {
		if len(list) > 0 {
			r.lists[i] = slices.Clone(list[1:])
			return list[0], true
		}
	}
	return api.Message{}, false
}

func (r *record) Sweep(now int) []api.Message {
	var all []api.Message
	for i, list := range r.lists {
		gone, stay := parted(list, now)
		all, r.lists[i] = append(all, gone...), stay
	}
	return all
}

func (r *record) Flush() []api.Message {
	all := r.all()
	clear(r.lists)
	return all
}

// all is the row of all.
func (r *record) all() []api.Message { return slices.Concat(r.lists...) }

// The kinds of calls that turn lanes.
const (
	aPut = iota
	aTake
	aSweep
	aFlush
)

// call is one that turns lanes: a Put of that message, a Sweep at that tick.
type call struct {
	kind, now int
	m         api.Message
}

// calls are all that turn so many lanes, with messages that are late at 1, .. as many ticks; of lanes that there are none of the next one.
func calls(lanes, ticks int) []call {
	l := []call{{kind: aTake}, {kind: aFlush}, {kind: aPut, m: message(lanes, 0)}}
	for tick := 1; tick <= ticks; tick++ {
		for i := range lanes {
			l = append(l, call{kind: aPut, m: late(i, tick, 0)})
		}
		l = append(l, call{kind: aSweep, now: tick})
	}
	return l
}

// numbered is the calls with messages that are told apart by which call puts them.
func numbered(row []call) []call {
	l := slices.Clone(row)
	for i := range l {
		l[i].m.Seq, l[i].m.Words = i, slices.Repeat([]int{i}, i%5)
	}
	return l
}

// rows are all rows of so many of these calls.
func rows(l []call, length int) iter.Seq[[]call] {
	return func(yield func([]call) bool) {
		row := make([]call, length)
		var put func(i int) bool
		put = func(i int) bool {
			if i == length {
				return yield(numbered(row))
			}
			for _, c := range l {
				row[i] = c
				if !put(i + 1) {
					return false
				}
			}
			return true
		}
		put(0)
	}
}

// size is how many lanes there are, of how many places.
type size struct{ lanes, places int }

// few are all rows of lanes of few places, up to some length.
func few() iter.Seq2[size, []call] {
	return func(yield func(size, []call) bool) {
		for _, x := range []struct{ lanes, places, ticks, length int }{
			{1, 1, 1, 6}, {1, 1, 2, 5}, {1, 2, 1, 6}, {1, 2, 2, 5}, {1, 3, 1, 6},
			{2, 1, 1, 6}, {2, 1, 2, 5}, {2, 2, 1, 6}, {2, 2, 2, 5}, {3, 1, 1, 5}, {3, 2, 1, 5}, {3, 2, 2, 4}, {3, 3, 1, 5},
		} {
			for length := range x.length + 1 {
				for row := range rows(calls(x.lanes, x.ticks), length) {
					if !yield(size{x.lanes, x.places}, row) {
						return
					}
				}
			}
		}
	}
}

// drawnTick is mostly one near now, and now and then one of any.
func drawnTick(random *rand.Rand, now int) int {
	if random.IntN(20) == 0 {
		return ticks()[random.IntN(len(ticks()))]
	}
	return now + random.IntN(12) - 3
}

// drawn is calls of so many lanes: these are full, and empty, in turn.
func drawn(random *rand.Rand, lanes, places, length int) []call {
	var l []call
	for now := 0; len(l) < length; now += random.IntN(4) {
		puts := random.IntN(11)
		for range random.IntN(lanes*places + 2) {
			c := call{kind: aTake}
			if random.IntN(10) < puts {
				c = call{kind: aPut, m: message(random.IntN(lanes+2)-1, 0)}
				if random.IntN(2) == 0 {
					c.m.Lane = random.IntN(lanes)
				}
				c.m.Late = drawnTick(random, now)
			}
			l = append(l, c)
		}
		switch random.IntN(8) {
		case 0:
			l = append(l, call{kind: aFlush})
		case 1, 2, 3:
			l = append(l, call{kind: aSweep, now: drawnTick(random, now)})
		}
	}
	return numbered(l)
}

// drawnRows are rows for lanes of each number of places.
func drawnRows(seed uint64) iter.Seq2[size, []call] {
	random := rand.New(rand.NewPCG(seed, seed))
	return func(yield func(size, []call) bool) {
		for n := range 24 * 25 {
			x := size{1 + n%3, 1 + n/3%8}
			if !yield(x, drawn(random, x.lanes, x.places, 200)) {
				return
			}
		}
	}
}

// turned is lanes, or a record of them.
type turned interface {
	Put(m api.Message) api.Errno
	Take() (api.Message, bool)
	Sweep(now int) []api.Message
	Flush() []api.Message
}

// answer makes the call, and tells what it answers: what went, too, where none is told as one of zeros.
func answer(l turned, c call) ([]api.Message, bool, api.Errno) {
	switch c.kind {
	case aPut:
		return nil, false, l.Put(c.m)
	case aTake:
		m, is := l.Take()
		return []api.Message{m}, is, api.NoError
	case aSweep:
		return l.Sweep(c.now), false, api.NoError
	}
	return l.Flush(), false, api.NoError
}

// asTold makes the call of both, and fails unless they answer it alike.
func asTold(t *testing.T, l, r turned, c call) {
	t.Helper()
	list, is, e := answer(l, c)
	want, there, f := answer(r, c)
	if !alike(list, want) || is != there || e != f {
		t.Errorf("%+v = %+v, %v, %v, not %+v, %v, %v", c, list, is, e, want, there, f)
	}
}

func TestEachRowAnswersAsTheRecord(t *testing.T) {
	t.Parallel()
	for s, row := range few() {
		x, r := made(t, s.lanes, s.places), newRecord(s.lanes, s.places)
		for _, c := range row {
			asTold(t, x.l, r, c)
		}
		// Only behind the last call: a shorter row asked behind the others.
		x.is(r.all()...)
		if t.Failed() {
			t.Fatalf("%+v: the row %+v", s, row)
		}
	}
}

func TestDrawnRowsAnswerAsTheRecord(t *testing.T) {
	t.Parallel()
	for s, row := range drawnRows(31) {
		x, r := made(t, s.lanes, s.places), newRecord(s.lanes, s.places)
		for i, c := range row {
			asTold(t, x.l, r, c)
			x.is(r.all()...)
			if t.Failed() {
				t.Fatalf("%+v: the row %+v", s, row[:i+1])
			}
		}
	}
}

func TestWhatIsAskedBetweenTurnsNothing(t *testing.T) {
	t.Parallel()
	for s, row := range drawnRows(37) {
		l, other := lane.New(s.lanes, s.places), lane.New(s.lanes, s.places)
		for i, c := range row {
			// The one is asked, and what it tells is turned; the other one isn't.
			l.Room(c.m.Lane)
			l.Len()
			m, _ := l.Peek()
			spoil([]api.Message{m})
			spoil(l.All())
			spoil(l.Of(c.m.Lane))
			asTold(t, l, other, c)
			if t.Failed() {
				t.Fatalf("%+v: the row %+v", s, row[:i+1])
			}
		}
	}
}

func TestRefusedCallsChangeNothing(t *testing.T) {
	t.Parallel()
	for s, row := range drawnRows(41) {
		l, other := lane.New(s.lanes, s.places), lane.New(s.lanes, s.places)
		for i, c := range row {
			// To the one come calls that are refused, where there are some.
			for n := -1; n <= s.lanes; n++ {
				if l.Room(n) == 0 && l.Put(message(n, -1)) == api.NoError {
					t.Errorf("let into the lane %d, which has no room", n)
				}
			}
			if l.Len() == 0 {
				l.Take()
				l.Peek()
				l.Flush()
			}
			asTold(t, l, other, c)
			if t.Failed() {
				t.Fatalf("%+v: the row %+v", s, row[:i+1])
			}
		}
	}
}
