package lane_test

import (
	"math"
	"slices"
	"testing"

	"empennage/api"
	"empennage/lane"
)

// numbers are some of any.
func numbers() []int {
	return []int{
		0, 1, -1, 2, -2, 3, -3, 4, -4, 7, 8, 9, 64, 255, 256, 257, -255, -256, 1 << 31, -1 << 31, 1 << 32, 1<<32 + 1, -1 << 32,
		api.MaxTick - 1, api.MaxTick, api.MaxTick + 1, -api.MaxTick, math.MaxInt - 1, math.MaxInt, math.MinInt + 1, math.MinInt,
	}
}

// outside are lanes that there are none of, where there are so many.
func outside(lanes int) []int {
	return slices.DeleteFunc(numbers(), func(n int) bool { return n >= 0 && n < lanes })
}

// message is one of that lane, told apart from others by its number.
func message(lane, seq int) api.Message {
	return api.Message{Words: []int{seq, -seq}, Lane: lane, Stamp: 3 * seq, Late: 100 + seq, Seq: seq}
}

// late is one that is late at that tick.
func late(lane, at, seq int) api.Message {
	m := message(lane, seq)
	m.Late = at
	return m
}

// copied is messages that share no memory with these.
func copied(list []api.Message) []api.Message {
	list = slices.Clone(list)
	for i, m := range list {
		list[i].Words = slices.Clone(m.Words)
	}
	return list
}

// alike tells whether both lists are the same; it does not ask Same.
func alike(a, b []api.Message) bool {
	if len(a) != len(b) {
		return false
	}
	for i, m := range a {
		n := b[i]
		if len(m.Words) != len(n.Words) || m.Lane != n.Lane || m.Stamp != n.Stamp || m.Late != n.Late || m.Seq != n.Seq {
			return false
		}
		for j, word := range m.Words {
			if word != n.Words[j] {
				return false
			}
		}
	}
	return true
}

// those are the messages of that lane.
func those(list []api.Message, lane int) []api.Message {
	return slices.DeleteFunc(slices.Clone(list), func(m api.Message) bool { return m.Lane != lane })
}

// look is lanes that are held against what is to be in them.
type look struct {
	t             *testing.T
	l             *lane.Lanes
	lanes, places int
}

// made is new lanes; the numbers are within what there may be.
func made(t *testing.T, lanes, places int) look {
	return look{t, lane.New(lanes, places), lanes, places}
}

// list fails unless both lists are the same.
func (x look) list(what string, got, want []api.Message) {
	x.t.Helper()
	if !alike(got, want) {
		x.t.Errorf("%s: %+v, not %+v", what, got, want)
	}
}

// one fails unless the message is the first one of the list, or none if there is none.
func (x look) one(what string, m api.Message, is bool, list []api.Message) {
	x.t.Helper()
	want := []api.Message{{}}
	if len(list) > 0 {
		want = list[:1]
	}
	if is != (len(list) > 0) || !alike([]api.Message{m}, want) {
		x.t.Errorf("%s: %+v, %v, of %+v", what, m, is, list)
	}
}

// is fails unless these, in the row of all, are in the lanes.
func (x look) is(want ...api.Message) {
	x.t.Helper()
	x.list("All", x.l.All(), want)
	m, is := x.l.Peek()
	x.one("Peek", m, is, want)
	if n := x.l.Len(); n != len(want) {
		x.t.Errorf("Len = %d, not %d", n, len(want))
	}
	for i := range x.lanes {
		of := those(want, i)
		x.list("Of a lane", x.l.Of(i), of)
		if n := x.l.Room(i); n != x.places-len(of) {
			x.t.Errorf("Room(%d) = %d, of %d with %d places", i, n, len(of), x.places)
		}
	}
	for _, i := range outside(x.lanes) {
		if l, n := x.l.Of(i), x.l.Room(i); len(l) != 0 || n != 0 {
			x.t.Errorf("of the lane %d that isn't there: %+v, room for %d", i, l, n)
		}
	}
}

// put fails unless the message is let in, or refused so.
func (x look) put(m api.Message, want api.Errno) {
	x.t.Helper()
	if e := x.l.Put(m); e != want {
		x.t.Errorf("Put(%+v): %v, not %v", m, e, want)
	}
}

// puts puts these.
func (x look) puts(list ...api.Message) look {
	x.t.Helper()
	for _, m := range list {
		x.put(m, api.NoError)
	}
	return x
}

// take fails unless that is the message that is taken.
func (x look) take(want api.Message) {
	x.t.Helper()
	m, is := x.l.Take()
	x.one("Take", m, is, []api.Message{want})
}

// none fails unless there is no message to be told, or taken out.
func (x look) none() {
	x.t.Helper()
	m, is := x.l.Take()
	x.one("Take", m, is, nil)
	m, is = x.l.Peek()
	x.one("Peek", m, is, nil)
	for _, now := range numbers() {
		x.list("Sweep", x.l.Sweep(now), nil)
	}
	x.list("Flush", x.l.Flush(), nil)
	x.is()
}

// filled is lanes in which each place is taken, lane by lane, and what is in them.
func filled(t *testing.T, lanes, places int) (look, []api.Message) {
	x := made(t, lanes, places)
	var all []api.Message
	for i := range lanes {
		for range places {
			all = append(all, message(i, len(all)))
		}
	}
	return x.puts(all...), all
}

func TestNewOfEachNumber(t *testing.T) {
	for lanes := 1; lanes <= 3; lanes++ {
		for places := 1; places <= 8; places++ {
			made(t, lanes, places).is()
			x, all := filled(t, lanes, places)
			x.is(all...)
			for i := range lanes {
				x.put(message(i, 99), api.ErrFull)
			}
			x.is(all...)
		}
	}
}

func TestNewOfAnyNumber(t *testing.T) {
	for _, lanes := range numbers() {
		for _, places := range numbers() {
			x := look{t, lane.New(lanes, places), min(max(lanes, 1), 3), min(max(places, 1), 8)}
			x.is()
			var all []api.Message
			for i := range x.lanes {
				for range x.places {
					m := message(i, len(all))
					x.puts(m)
					all = append(all, m)
				}
				x.put(message(i, 99), api.ErrFull)
			}
			x.put(message(x.lanes, 99), api.InvalidParam)
			x.is(all...)
			if t.Failed() {
				t.Fatalf("New(%d, %d)", lanes, places)
			}
		}
	}
}

func TestExample(t *testing.T) {
	x := made(t, 2, 1)
	x.puts(message(1, 0), message(0, 1))
	x.is(message(0, 1), message(1, 0))
	x.take(message(0, 1))
	x.take(message(1, 0))
	x.none()
}

func TestPutStandsBehindThoseOfItsLane(t *testing.T) {
	x := made(t, 3, 4)
	a, b, c, d, e, f := message(2, 0), message(0, 1), message(1, 2), message(0, 3), message(2, 4), message(1, 5)
	x.puts(a)
	x.is(a)
	x.puts(b)
	x.is(b, a)
	x.puts(c)
	x.is(b, c, a)
	x.puts(d)
	x.is(b, d, c, a)
	x.puts(e)
	x.is(b, d, c, a, e)
	x.puts(f)
	x.is(b, d, c, f, a, e)
}

func TestNothingButTheLaneSetsTheRow(t *testing.T) {
	// Of one lane, each field and each word falls from message to message.
	x := made(t, 3, 8)
	var all []api.Message
	for i := range 8 {
		m := api.Message{Words: slices.Repeat([]int{-i}, 8-i), Lane: 1, Stamp: -i, Late: -i, Seq: -i}
		all = append(all, m)
		x.puts(m)
	}
	x.is(all...)
	// And one that stands twice is two messages.
	x = made(t, 3, 8).puts(message(1, 5), message(1, 5), message(0, 5))
	x.is(message(0, 5), message(1, 5), message(1, 5))
	x.take(message(0, 5))
	x.take(message(1, 5))
	x.is(message(1, 5))
}

func TestPutOfALaneThatIsNotThere(t *testing.T) {
	for lanes := 1; lanes <= 3; lanes++ {
		for places := 1; places <= 8; places++ {
			empty := made(t, lanes, places)
			full, all := filled(t, lanes, places)
			for _, i := range outside(lanes) {
				empty.put(message(i, 7), api.InvalidParam)
				full.put(message(i, 7), api.InvalidParam)
			}
			empty.is()
			full.is(all...)
		}
	}
}

func TestPutIntoAFullLane(t *testing.T) {
	for lanes := 1; lanes <= 3; lanes++ {
		for places := 1; places <= 8; places++ {
			for i := range lanes {
				x := made(t, lanes, places)
				var all []api.Message
				for n := range places {
					all = append(all, message(i, n))
					x.puts(message(i, n))
					x.is(all...)
				}
				x.put(message(i, 50), api.ErrFull)
				x.put(api.Message{Lane: i}, api.ErrFull)
				x.is(all...)
				// The other lanes have their room still.
				for j := range lanes {
					if j != i {
						x.puts(message(j, 60))
					}
				}
				x.put(message(i, 70), api.ErrFull)
				x.l.Flush()
				x.puts(all...)
				x.is(all...)
			}
		}
	}
}

func TestPlaceThatIsLeftHasRoomAgain(t *testing.T) {
	x, all := filled(t, 2, 3)
	x.take(all[0])
	x.is(all[1:]...)
	x.puts(message(0, 20))
	x.put(message(0, 21), api.ErrFull)
	x.put(message(1, 22), api.ErrFull)
	x.is(all[1], all[2], message(0, 20), all[3], all[4], all[5])
	for _, m := range []api.Message{all[1], all[2], message(0, 20), all[3]} {
		x.take(m)
	}
	x.puts(message(1, 23))
	x.put(message(1, 24), api.ErrFull)
	x.is(all[4], all[5], message(1, 23))
}

func TestMessagesOfManyWords(t *testing.T) {
	for _, n := range []int{0, 1, 2, 3, 4, 5, 8, 64, 65, 1000} {
		var words []int
		for i := range n {
			words = append(words, numbers()[i%len(numbers())])
		}
		m := api.Message{Words: words, Lane: 1, Stamp: math.MinInt, Late: math.MaxInt, Seq: math.MinInt + 1}
		o := api.Message{Words: []int{3}, Lane: 0, Stamp: math.MaxInt, Late: math.MaxInt, Seq: math.MaxInt - 1}
		x := made(t, 2, 2).puts(m, m, o)
		x.is(o, m, m)
		x.take(o)
		x.take(m)
		x.is(m)
		x.list("Sweep", x.l.Sweep(math.MaxInt), []api.Message{m})
		x.puts(m)
		x.list("Flush", x.l.Flush(), []api.Message{m})
		x.none()
	}
	x := made(t, 1, 3).puts(api.Message{Words: nil}, api.Message{Words: []int{}}, api.Message{})
	x.is(api.Message{}, api.Message{}, api.Message{})
}

func TestMessageOfZerosIsOne(t *testing.T) {
	x := made(t, 1, 2).puts(api.Message{})
	if m, is := x.l.Peek(); !is || !alike([]api.Message{m}, []api.Message{{}}) {
		t.Errorf("Peek: %+v, %v", m, is)
	}
	if m, is := x.l.Take(); !is || !alike([]api.Message{m}, []api.Message{{}}) {
		t.Errorf("Take: %+v, %v", m, is)
	}
	x.none()
}

func TestTakeIsTheFirstOfAll(t *testing.T) {
	for lanes := 1; lanes <= 3; lanes++ {
		for places := 1; places <= 8; places++ {
			x, all := filled(t, lanes, places)
			for i, m := range all {
				x.is(all[i:]...)
				x.take(m)
			}
			x.none()
		}
	}
}

func TestTakeOfSomeLanes(t *testing.T) {
	// Each lane has none, one or two messages; they are put the last lane's first.
	for n := range 27 {
		x, counts := made(t, 3, 2), [3]int{n % 3, n / 3 % 3, n / 9}
		var all []api.Message
		for i := 2; i >= 0; i-- {
			var mine []api.Message
			for j := range counts[i] {
				mine = append(mine, message(i, 10*i+j))
			}
			x.puts(mine...)
			all = append(mine, all...)
		}
		for i, m := range all {
			x.is(all[i:]...)
			x.take(m)
		}
		x.none()
	}
}

func TestPeekTakesNothingOut(t *testing.T) {
	x, all := filled(t, 3, 2)
	for range 20 {
		m, is := x.l.Peek()
		x.one("Peek", m, is, all)
	}
	x.is(all...)
}

func TestNoneOfNew(t *testing.T) {
	for lanes := 1; lanes <= 3; lanes++ {
		made(t, lanes, 2).none()
	}
}

func TestFlushTakesAllOut(t *testing.T) {
	for lanes := 1; lanes <= 3; lanes++ {
		for places := 1; places <= 8; places++ {
			x, all := filled(t, lanes, places)
			x.list("Flush", x.l.Flush(), all)
			x.none()
			x.puts(all...)
			x.is(all...)
		}
	}
}

func TestLanesShareNothing(t *testing.T) {
	a, b := made(t, 2, 2), made(t, 2, 2)
	a.puts(message(0, 1))
	b.is()
	b.puts(message(1, 2), message(0, 3))
	a.is(message(0, 1))
	b.l.Flush()
	a.is(message(0, 1))
	b.is()
}

func TestNil(t *testing.T) {
	x := look{t: t}
	for range 2 {
		for _, n := range numbers() {
			x.put(message(n, 1), api.InvalidParam)
			x.put(api.Message{Lane: n}, api.InvalidParam)
		}
		// No lane is there: is asks Of and Room of all numbers.
		x.none()
	}
}

func TestLanesThatNewDidNotMake(t *testing.T) {
	// No chapter speaks of them: their calls have but to end, and not to panic (T0).
	l := new(lane.Lanes)
	for _, n := range numbers() {
		l.Put(message(n, 1))
		l.Room(n)
		l.Of(n)
		l.Take()
		l.Peek()
		l.Sweep(n)
		l.All()
		l.Flush()
	}
	l.Len()
}
