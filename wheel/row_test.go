package wheel_test

import (
	"slices"
	"testing"

	"empennage/wheel"
)

// P14.2 is asked by the tests of this file, by what a wheel tells alone.

// event is a call that was made, and what was told.
type event struct {
	call
	keys []int
	had  bool
}

// history is all calls that were made of one wheel.
type history []event

// history makes the calls, and fails if beside one of them Len isn't the length of Keys, or one key is told twice.
func (x look) history(row []call) history {
	h := make(history, len(row))
	for i, c := range row {
		keys, had := answer(x.w, c)
		h[i] = event{c, keys, had}
		x.once(keys)
		x.once(x.w.Keys())
		if n, keys := x.w.Len(), x.w.Keys(); n != len(keys) {
			x.t.Errorf("%+v: Len() = %d of %v", c, n, keys)
		}
	}
	return h
}

// once fails if a key stands there twice.
func (x look) once(keys []int) {
	seen := make(map[int]struct{}, len(keys))
	for _, key := range keys {
		seen[key] = struct{}{}
	}
	if len(seen) != len(keys) {
		x.t.Errorf("told twice: %v", keys)
	}
}

// over is the place of the call by which what was set at that place waits no more; len(h): none is.
func (h history) over(place int) int {
	set := h[place]
	for i := place + 1; i < len(h); i++ {
		if h[i].kind == aDue && cut(set.tick) <= cut(h[i].tick) || h[i].kind != aDue && h[i].key == set.key {
			return i
		}
	}
	return len(h)
}

// told are the places of those that are to be told at that place: by their ticks, of one tick as they were set.
func (h history) told(place int) []int {
	var l []int
	for i := range place {
		if h[i].kind == aSet && h.over(i) == place {
			l = append(l, i)
		}
	}
	slices.SortStableFunc(l, func(a, b int) int { return cut(h[a].tick) - cut(h[b].tick) })
	return l
}

// keys are the keys of the calls at these places.
func (h history) keys(places []int) []int {
	l := make([]int, len(places))
	for i, place := range places {
		l[i] = h[place].key
	}
	return l
}

// eachOnce fails unless each that was set was told at the first Due that is no earlier than its tick, and nothing else was, unless it was cancelled or set again.
func (x look) eachOnce(h history) {
	tellings := map[int]int{} // how often what was set at that place was told
	for i, m := range h {
		if m.kind != aDue {
			continue
		}
		places := h.told(i)
		for _, place := range places {
			tellings[place]++
		}
		if want := h.keys(places); !slices.Equal(m.keys, want) {
			x.t.Errorf("%+v told %v, not %v", m.call, m.keys, want)
		}
	}
	for i, m := range h {
		due := h.over(i) < len(h) && h[h.over(i)].kind == aDue
		if m.kind == aSet && due && tellings[i] != 1 || (m.kind != aSet || !due) && tellings[i] != 0 {
			x.t.Errorf("%+v was told %d times", m.call, tellings[i])
		}
	}
}

// hadWaited fails unless Set and Cancel told whether what was set ahead waited still, and Keys tells all that wait yet.
func (x look) hadWaited(h history) {
	for i, m := range h {
		had := false
		for j := range i {
			had = had || h[j].kind == aSet && h[j].key == m.key && h.over(j) == i
		}
		if m.kind != aDue && m.had != had {
			x.t.Errorf("%+v told %v, not %v", m.call, m.had, had)
		}
	}
	if keys, want := x.w.Keys(), h.keys(h.told(len(h))); !slices.Equal(keys, want) {
		x.t.Errorf("Keys() = %v, not %v", keys, want)
	}
}

func TestEachIsToldOnceInEachRow(t *testing.T) {
	t.Parallel()
	for row := range few() {
		x := made(t)
		h := x.history(row)
		x.eachOnce(h)
		x.hadWaited(h)
		if t.Failed() {
			t.Fatalf("the row %+v", row)
		}
	}
}

func TestEachIsToldOnceInDrawnRows(t *testing.T) {
	t.Parallel()
	for row := range drawnRows(65) {
		x := made(t)
		h := x.history(row)
		x.eachOnce(h)
		x.hadWaited(h)
		if t.Failed() {
			t.Fatalf("the row %+v", row)
		}
	}
}

func TestEachIsToldWhereTicksComeOneByOne(t *testing.T) {
	t.Parallel()
	for row := range drawnRows(67) {
		x, at := made(t), map[int]int{}
		for _, c := range row {
			if c.kind == aSet {
				c.tick = 1 + (c.tick%50+50)%50
				at[c.key] = c.tick
			} else {
				delete(at, c.key)
				c.kind = aCancel
			}
			answer(x.w, c)
		}
		for now := range 52 {
			for _, key := range x.w.Due(now) {
				if until, waits := at[key]; !waits || until != now {
					t.Errorf("%d until %d, %v, is told at %d", key, until, waits, now)
				}
				delete(at, key)
			}
		}
		if len(at) > 0 || x.w.Len() > 0 {
			t.Errorf("not told: %v; there still: %v", at, x.w.Keys())
		}
		if t.Failed() {
			t.Fatalf("the row %+v", row)
		}
	}
}

// same fails unless both wheels tell the same.
func same(t *testing.T, a, b *wheel.Wheel) {
	if !slices.Equal(a.Keys(), b.Keys()) || a.Len() != b.Len() {
		t.Errorf("%v, %d, and %v, %d", a.Keys(), a.Len(), b.Keys(), b.Len())
	}
	key, until, is := a.First()
	if k, u, i := b.First(); key != k || until != u || is != i {
		t.Errorf("%d, %d, %v, and %d, %d, %v", key, until, is, k, u, i)
	}
	for _, key := range a.Keys() {
		until, is := a.Until(key)
		if u, i := b.Until(key); until != u || is != i {
			t.Errorf("%d until %d, %v, and %d, %v", key, until, is, u, i)
		}
	}
}

func TestTwoWheelsThatAreHandedTheSameCallsAnswerTheSame(t *testing.T) {
	t.Parallel()
	for row := range drawnRows(69) {
		a, b := wheel.New(), wheel.New()
		for i, c := range row {
			asTold(t, a, b, c)
			same(t, a, b)
			if t.Failed() {
				t.Fatalf("the row %+v", row[:i+1])
			}
		}
		// One that is handed all of them when the other one is done answers the same, too.
		c := wheel.New()
		for _, one := range row {
			answer(c, one)
		}
		same(t, a, c)
	}
}

func TestAWheelThatIsEmptyAgainIsAsANewOne(t *testing.T) {
	t.Parallel()
	old, turn := wheel.New(), 0
	for row := range drawnRows(71) {
		if turn++; turn%2 == 0 {
			old.Due(1 << 62)
		} else {
			for _, key := range old.Keys() {
				old.Cancel(key)
			}
		}
		fresh := wheel.New()
		for i, c := range row {
			asTold(t, old, fresh, c)
			same(t, old, fresh)
			if t.Failed() {
				t.Fatalf("behind others, the row %+v", row[:i+1])
			}
		}
	}
}

func TestTicksBetweenMayBeAskedOrNot(t *testing.T) {
	t.Parallel()
	for row := range drawnRows(73) {
		a, b := wheel.New(), wheel.New()
		for i, c := range row {
			if c.kind != aDue {
				asTold(t, a, b, c)
				continue
			}
			// The one is asked at some ticks up to that one first: what it tells then is told at once of the other one.
			var told []int
			for _, less := range []int{30, 7, 2, 1, 0} {
				told = append(told, a.Due(max(c.tick, 0)-less)...)
			}
			if at := b.Due(c.tick); !slices.Equal(told, at) {
				t.Errorf("%+v told %v, not %v", c, at, told)
			}
			if t.Failed() {
				t.Fatalf("the row %+v", row[:i+1])
			}
		}
	}
}
