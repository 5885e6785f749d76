package wheel_test

import (
	"iter"
	"math"
	"math/rand/v2"
	"slices"
	"testing"

	"empennage/api"
	"empennage/wheel"
)

// record is what a wheel is to be: its row, in which each is put where it stands.
type record struct{ list []one }

func (r *record) find(key int) int {
	return slices.IndexFunc(r.list, func(o one) bool { return o.key == key })
}

func (r *record) Set(key, until int) bool {
	had := r.Cancel(key)
	place := 0
	for place < len(r.list) && r.list[place].until <= cut(until) {
		place++
	}
	r.list = slices.Insert(r.list, place, one{key, cut(until)})
	return had
}

func (r *record) Cancel(key int) bool {
	i := r.find(key)
	if i >= 0 {
		r.list = slices.Delete(r.list, i, i+1)
	}
	return i >= 0
}

func (r *record) Due(now int) []int {
	var told []int
	for len(r.list) > 0 && r.list[0].until <= cut(now) {
		told = append(told, r.list[0].key)
		r.list = r.list[1:]
	}
	return told
}

// The kinds of calls that turn a wheel.
const (
	aSet = iota
	aCancel
	aDue
)

// call is one that turns a wheel.
type call struct{ kind, key, tick int }

// turned is a wheel, or a record of one.
type turned interface {
	Set(key, until int) bool
	Cancel(key int) bool
	Due(now int) []int
}

// answer makes the call, and tells what it answers: none and false in the place of what it doesn't.
func answer(w turned, c call) ([]int, bool) {
	switch c.kind {
	case aSet:
		return nil, w.Set(c.key, c.tick)
	case aCancel:
		return nil, w.Cancel(c.key)
	}
	return w.Due(c.tick), false
}

// asTold makes the call of both, and fails unless they answer it alike. It is no helper of the tests: to say so takes longer than the call.
func asTold(t *testing.T, w, r turned, c call) {
	keys, had := answer(w, c)
	if want, so := answer(r, c); !slices.Equal(keys, want) || had != so {
		t.Errorf("%+v = %v, %v, not %v, %v", c, keys, had, want, so)
	}
}

// calls are all that turn a wheel and have one of these keys and ticks.
func calls(keys, ticks []int) []call {
	var l []call
	for _, tick := range ticks {
		l = append(l, call{kind: aDue, tick: tick})
		for _, key := range keys {
			l = append(l, call{aSet, key, tick})
		}
	}
	for _, key := range keys {
		l = append(l, call{kind: aCancel, key: key})
	}
	return l
}

// rows are all rows of so many of these calls; each is gone when the next one comes.
func rows(l []call, length int) iter.Seq[[]call] {
	return func(yield func([]call) bool) {
		row := make([]call, length)
		var put func(i int) bool
		put = func(i int) bool {
			if i == length {
				return yield(row)
			}
			for _, c := range l {
				row[i] = c
				if !put(i + 1) {
					return false
				}
			}
			return true
		}
		put(0)
	}
}

// few are all rows of calls of few keys and ticks, up to some length.
func few() iter.Seq[[]call] {
	return func(yield func([]call) bool) {
		for _, x := range []struct {
			length      int
			keys, ticks []int
		}{
			{5, []int{0}, []int{-1, 0, 1, 2}}, {5, []int{1, 2}, []int{1, 2}}, {4, []int{0, 1}, []int{0, 1, 2, 3}},
			{5, []int{4, 0, -4}, []int{3}}, {4, []int{1, 2, 3}, []int{5, 7, 9}}, {4, []int{-1, 0, 1, 2}, []int{4, 8}},
			{4, []int{math.MaxInt, math.MinInt}, []int{api.MaxTick - 1, api.MaxTick, math.MaxInt}}, {2, ends(), ends()},
		} {
			for length := range x.length + 1 {
				for row := range rows(calls(x.keys, x.ticks), length) {
					if !yield(row) {
						return
					}
				}
			}
		}
	}
}

// keysDrawn are the keys of a row of calls: few, some or many, of any numbers or not.
func keysDrawn(random *rand.Rand) []int {
	l := make([]int, 1+random.IntN([]int{2, 5, 20, 60}[random.IntN(4)]))
	from := random.IntN(9) - 4
	for i := range l {
		switch random.IntN(20) {
		case 0:
			l[i] = ends()[random.IntN(len(ends()))]
		case 1:
			l[i] = int(random.Uint64())
		default:
			l[i] = from + i
		}
	}
	return l
}

// drawn is so many calls at ticks that rise, mostly: from 0 on, from any tick on, or up to 2^62.
func drawn(random *rand.Rand, length int) []call {
	keys := keysDrawn(random)
	now := []int{0, -20, random.IntN(api.MaxTick), api.MaxTick - random.IntN(2*length)}[random.IntN(4)]
	sets, wide := 5+random.IntN(5), 1+random.IntN([]int{1, 4, 30}[random.IntN(3)])
	l := make([]call, length)
	for i := range l {
		c := call{aSet, keys[random.IntN(len(keys))], now + random.IntN(wide)}
		switch {
		case random.IntN(40) == 0:
			c.tick = ends()[random.IntN(len(ends()))]
		case random.IntN(10) == 0:
			now += random.IntN(wide)
		}
		if random.IntN(10) >= sets {
			c.kind = aCancel + random.IntN(2)
		}
		l[i] = plain(c)
	}
	return l
}

// plain is the call without what its kind doesn't take.
func plain(c call) call {
	switch c.kind {
	case aCancel:
		c.tick = 0
	case aDue:
		c.key = 0
	}
	return c
}

// drawnRows are many rows of calls.
func drawnRows(seed uint64) iter.Seq[[]call] {
	random := rand.New(rand.NewPCG(seed, seed))
	return func(yield func([]call) bool) {
		for range 1500 {
			if !yield(drawn(random, 150)) {
				return
			}
		}
	}
}

func TestEachRowAnswersAsTheRecord(t *testing.T) {
	t.Parallel()
	for row := range few() {
		x, r := made(t), &record{}
		for _, c := range row {
			asTold(t, x.w, r, c)
		}
		// Only behind the last call: a shorter row asked behind the others.
		x.row(r.list)
		for _, o := range r.list {
			x.until(o.key, o.until, true)
		}
		if t.Failed() {
			t.Fatalf("the row %+v", row)
		}
	}
}

func TestDrawnRowsAnswerAsTheRecord(t *testing.T) {
	t.Parallel()
	for row := range drawnRows(61) {
		x, r := made(t), &record{}
		for i, c := range row {
			asTold(t, x.w, r, c)
			x.is(r.list...)
			if t.Failed() {
				t.Fatalf("the row %+v", row[:i+1])
			}
		}
	}
}

func TestWhatIsAskedBetweenTurnsNothing(t *testing.T) {
	t.Parallel()
	for row := range drawnRows(63) {
		w, other := wheel.New(), wheel.New()
		for i, c := range row {
			// The one is asked, the other one isn't.
			w.Keys()
			w.First()
			w.Until(c.key)
			w.Len()
			asTold(t, w, other, c)
			if t.Failed() {
				t.Fatalf("the row %+v", row[:i+1])
			}
		}
	}
}
