package wheel_test

import (
	"cmp"
	"iter"
	"math"
	"slices"
	"testing"

	"empennage/api"
	"empennage/wheel"
)

// P14.1 is asked by the tests of this file, each edge written out, and of record_test.go; R4 by those of memory_test.go.

// ends are numbers, of keys and of ticks, at which something could turn.
func ends() []int {
	return []int{
		math.MinInt, math.MinInt + 1, -api.MaxTick - 1, -api.MaxTick, -api.MaxTick + 1, -1 << 32, -1 << 31, -2, -1, 0, 1, 2, 3, 7,
		255, 256, 1 << 31, 1 << 32, 1<<32 + 1, api.MaxTick - 2, api.MaxTick - 1, api.MaxTick, api.MaxTick + 1, api.MaxTick + 2,
		math.MaxInt - 1, math.MaxInt,
	}
}

// cut is the number of a tick that is nearest to n.
func cut(n int) int { return min(max(n, 0), 1<<62) }

// one is a key, and until when it waits.
type one struct{ key, until int }

// keysOf is the keys of these.
func keysOf(row []one) []int {
	l := make([]int, len(row))
	for i, o := range row {
		l[i] = o.key
	}
	return l
}

// look holds a wheel against what it is to be.
type look struct {
	t *testing.T
	w *wheel.Wheel
}

func made(t *testing.T) look { return look{t, wheel.New()} }

// set fails unless the key had waited, or had not, as told.
func (x look) set(key, until int, had bool) {
	x.t.Helper()
	if got := x.w.Set(key, until); got != had {
		x.t.Errorf("Set(%d, %d) = %v", key, until, got)
	}
}

// sets sets these, none of which may have waited.
func (x look) sets(row ...one) look {
	x.t.Helper()
	for _, o := range row {
		x.set(o.key, o.until, false)
	}
	return x
}

// cancel fails unless the key had waited, or had not, as told.
func (x look) cancel(key int, had bool) {
	x.t.Helper()
	if got := x.w.Cancel(key); got != had {
		x.t.Errorf("Cancel(%d) = %v", key, got)
	}
}

// due fails unless these are told.
func (x look) due(now int, keys ...int) {
	x.t.Helper()
	if got := x.w.Due(now); !slices.Equal(got, keys) {
		x.t.Errorf("Due(%d) = %v, not %v", now, got, keys)
	}
}

// until fails unless the key waits until then, or waits not.
func (x look) until(key, want int, waits bool) {
	x.t.Helper()
	if got, is := x.w.Until(key); got != want || is != waits {
		x.t.Errorf("Until(%d) = %d, %v, not %d, %v", key, got, is, want, waits)
	}
}

// first fails unless the row begins so.
func (x look) first(row []one) {
	x.t.Helper()
	var want one
	if len(row) > 0 {
		want = row[0]
	}
	if key, until, is := x.w.First(); key != want.key || until != want.until || is != (len(row) > 0) {
		x.t.Errorf("First() = %d, %d, %v, not %v of %d", key, until, is, want, len(row))
	}
}

// row fails unless the wheel's row is this one.
func (x look) row(row []one) {
	x.t.Helper()
	if keys := x.w.Keys(); !slices.Equal(keys, keysOf(row)) {
		x.t.Errorf("Keys() = %v, not those of %v", keys, row)
	}
	if n := x.w.Len(); n != len(row) {
		x.t.Errorf("Len() = %d of %v", n, row)
	}
	x.first(row)
}

// is fails unless the wheel's row is this one, its ticks are these, and no other key waits; it asks twice, as asking turns nothing.
func (x look) is(row ...one) {
	x.t.Helper()
	waits := map[int]int{}
	for _, o := range row {
		waits[o.key] = o.until
	}
	for range 2 {
		x.row(row)
		for _, key := range slices.Concat(keysOf(row), ends()) {
			until, is := waits[key]
			x.until(key, until, is)
		}
	}
}

// permutations are all rows of these.
func permutations(l []one) iter.Seq[[]one] {
	return func(yield func([]one) bool) {
		var put func(ahead, left []one) bool
		put = func(ahead, left []one) bool {
			if len(left) == 0 {
				return yield(ahead)
			}
			for i := range left {
				if !put(append(slices.Clone(ahead), left[i]), slices.Concat(left[:i], left[i+1:])) {
					return false
				}
			}
			return true
		}
		put(nil, l)
	}
}

// inRow is these as they stand in the wheel's row, if they were set as they stand here.
func inRow(l []one) []one {
	row := slices.Clone(l)
	for i := range row {
		row[i].until = cut(row[i].until)
	}
	slices.SortStableFunc(row, func(a, b one) int { return cmp.Compare(a.until, b.until) })
	return row
}

func TestNil(t *testing.T) {
	x := look{t, nil}
	for range 2 {
		x.is()
		for _, n := range ends() {
			x.cancel(n, false)
			x.due(n)
			for _, until := range ends() {
				x.set(n, until, false)
			}
			x.is()
		}
	}
}

func TestNew(t *testing.T) {
	x := made(t)
	x.is()
	for _, n := range ends() {
		x.cancel(n, false)
		x.is()
		x.due(n)
		x.is()
	}
}

func TestAWheelThatNewDidNotMakeIsAsANewOne(t *testing.T) {
	for _, n := range ends() {
		x := look{t, &wheel.Wheel{}}
		x.is()
		x.cancel(n, false)
		x.due(n)
		x.is()
		x.sets(one{n, 9}, one{5, 8}).is(one{5, 8}, one{n, 9})
		x.due(9, 5, n)
		x.is()
	}
}

func TestExample(t *testing.T) {
	x := made(t)
	x.set(5, 9, false)
	x.set(6, 9, false)
	x.set(7, 8, false)
	x.is(one{7, 8}, one{5, 9}, one{6, 9})
	x.due(9, 7, 5, 6)
	x.is()
}

func TestOneKeyOfAnyNumberUntilAnyTick(t *testing.T) {
	for _, key := range ends() {
		for _, until := range ends() {
			x, at := made(t), cut(until)
			x.set(key, until, false)
			x.is(one{key, at})
			if at > 0 {
				x.due(0)
				x.due(-1)
				x.due(math.MinInt)
				x.due(at - 1)
				x.is(one{key, at})
			}
			x.set(key, until, true)
			x.is(one{key, at})
			x.due(until, key)
			x.is()
			x.due(until)
			x.set(key, until, false)
			x.is(one{key, at})
			x.cancel(key, true)
			x.is()
			x.cancel(key, false)
			x.is()
		}
	}
}

func TestOneKeyIsDueAtEachTickFromItsOwnOn(t *testing.T) {
	for _, until := range ends() {
		for _, now := range ends() {
			x := made(t).sets(one{4, until})
			if cut(until) <= cut(now) {
				x.due(now, 4)
				x.is()
			} else {
				x.due(now)
				x.is(one{4, cut(until)})
			}
		}
	}
}

func TestTheRowIsByTicks(t *testing.T) {
	l := []one{{1, 50}, {2, 40}, {-3, 30}, {4, 20}, {0, 10}}
	for row := range permutations(l) {
		x := made(t).sets(row...)
		x.is(one{0, 10}, one{4, 20}, one{-3, 30}, one{2, 40}, one{1, 50})
		x.due(30, 0, 4, -3)
		x.is(one{2, 40}, one{1, 50})
		x.due(50, 2, 1)
		x.is()
	}
}

func TestOfOneTickTheRowIsAsTheyWereSet(t *testing.T) {
	for _, until := range []int{0, 1, 9, api.MaxTick - 1, api.MaxTick} {
		for row := range permutations([]one{{5, until}, {-1, until}, {0, until}, {1, until}, {math.MaxInt, until}}) {
			x := made(t).sets(row...)
			x.is(row...)
			if until > 0 {
				x.due(until - 1)
				x.is(row...)
			}
			x.due(until, keysOf(row)...)
			x.is()
		}
	}
}

func TestOfTwoTicksEachRowIsAsTheyWereSet(t *testing.T) {
	for row := range permutations([]one{{1, 8}, {2, 8}, {3, 8}, {11, 9}, {12, 9}, {13, 9}}) {
		x, want := made(t).sets(row...), inRow(row)
		x.row(want)
		x.due(8, keysOf(want[:3])...)
		x.row(want[3:])
		x.due(9, keysOf(want[3:])...)
		x.row(nil)
	}
}

func TestTicksBelow0AreOneTickAndThoseAbove2To62(t *testing.T) {
	low := []one{{1, 0}, {2, -1}, {3, math.MinInt}, {4, -api.MaxTick}}
	high := []one{{5, api.MaxTick}, {6, api.MaxTick + 1}, {7, math.MaxInt}, {8, math.MaxInt - 1}}
	between := []one{{9, api.MaxTick - 1}, {10, 1}}
	for a := range permutations(low) {
		for b := range permutations(high) {
			x := made(t).sets(b...).sets(a...).sets(between...)
			x.row(slices.Concat(inRow(a), []one{{10, 1}, {9, api.MaxTick - 1}}, inRow(b)))
			x.due(a[0].until, keysOf(a)...)
			x.due(api.MaxTick-1, 10, 9)
			x.row(inRow(b))
			x.due(b[0].until, keysOf(b)...)
			x.row(nil)
		}
	}
}

func TestKeysAndTicksOfTheSameNumbers(t *testing.T) {
	x := made(t)
	var l []one
	for _, n := range slices.Backward(ends()) {
		l = append(l, one{n, n})
		x.sets(one{n, n}).is(inRow(l)...)
	}
	low, high := []int{0, -1, -2, -1 << 31, -1 << 32, -api.MaxTick + 1, -api.MaxTick, -api.MaxTick - 1, math.MinInt + 1, math.MinInt},
		[]int{math.MaxInt, math.MaxInt - 1, api.MaxTick + 2, api.MaxTick + 1, api.MaxTick}
	x.due(math.MinInt, low...)
	x.due(0)
	for _, n := range ends() {
		if n > 0 && n < api.MaxTick {
			x.due(n - 1)
			x.due(n, n)
			x.until(n, 0, false)
		}
	}
	x.due(api.MaxTick, high...)
	x.is()
}

// TestKeysWhoseNumbersAreAlikeInPart fails if a key is kept by a part of its number.
func TestKeysWhoseNumbersAreAlikeInPart(t *testing.T) {
	x := made(t)
	var row []one
	for i := range 64 {
		for _, key := range []int{1 << i, -1 << i, 1<<i | 1} {
			if !slices.Contains(keysOf(row), key) {
				row = append(row, one{key, len(row) + 1})
			}
		}
	}
	x.sets(row...).is(row...)
	for i, o := range row {
		if i%2 == 0 {
			x.cancel(o.key, true)
		}
	}
	for i, o := range row {
		if i%2 == 0 {
			x.due(o.until)
			x.until(o.key, 0, false)
		} else {
			x.due(o.until, o.key)
		}
	}
	x.is()
}

func TestMany(t *testing.T) {
	for _, n := range []int{2, 7, 8, 9, 12, 13, 50, 1000} {
		x := made(t)
		var all []one
		for i := range n {
			// Of keys that neither rise nor fall, several of one tick, and ticks that go to and fro.
			all = append(all, one{(i*7919)%n - n/2, (i * 31) % (n/3 + 1)})
		}
		x.sets(all...)
		row := inRow(all)
		x.is(row...)
		for now := -1; now <= n/3; now++ {
			some := slices.IndexFunc(row, func(o one) bool { return o.until > max(now, 0) })
			if some < 0 {
				some = len(row)
			}
			x.due(now, keysOf(row[:some])...)
			row = row[some:]
			x.row(row)
		}
		x.is()
	}
}

func TestManyOfOneTick(t *testing.T) {
	for _, n := range []int{2, 7, 8, 9, 12, 13, 50, 1000} {
		x := made(t)
		var all []one
		for i := range n {
			all = append(all, one{(i*7919)%n - n/2, 5})
		}
		x.sets(all...).is(all...)
		// Each that is set anew goes behind the others.
		for i := range n {
			if i%3 == 1 {
				x.set(all[i].key, 5, true)
			}
		}
		x.due(4)
		var stay, anew []one
		for i, o := range all {
			if i%3 == 1 {
				anew = append(anew, o)
			} else {
				stay = append(stay, o)
			}
		}
		x.is(slices.Concat(stay, anew)...)
		x.due(5, keysOf(slices.Concat(stay, anew))...)
		x.is()
	}
}

func TestSetAnewUntilTheSameTick(t *testing.T) {
	row := []one{{1, 5}, {2, 5}, {3, 5}, {4, 5}}
	for i, o := range row {
		x := made(t).sets(row...).sets(one{8, 4}, one{9, 6})
		x.set(o.key, 5, true)
		anew := slices.Concat(row[:i], row[i+1:], []one{o})
		x.is(slices.Concat([]one{{8, 4}}, anew, []one{{9, 6}})...)
		// It stands behind those that were set ahead of it alone.
		x.set(7, 5, false)
		anew = append(anew, one{7, 5})
		x.is(slices.Concat([]one{{8, 4}}, anew, []one{{9, 6}})...)
		x.due(5, append([]int{8}, keysOf(anew)...)...)
		x.is(one{9, 6})
	}
}

func TestSetAnewUntilAnEarlierTick(t *testing.T) {
	row := []one{{1, 5}, {2, 5}, {3, 8}, {4, 8}, {5, 8}}
	for i := 2; i < 5; i++ {
		stay := slices.Concat(row[2:i], row[i+1:])
		for _, x := range []struct {
			until int
			want  []one
		}{
			{4, []one{{row[i].key, 4}, {1, 5}, {2, 5}}}, {5, []one{{1, 5}, {2, 5}, {row[i].key, 5}}}, {7, []one{{1, 5}, {2, 5}, {row[i].key, 7}}},
			{0, []one{{row[i].key, 0}, {1, 5}, {2, 5}}}, {math.MinInt, []one{{row[i].key, 0}, {1, 5}, {2, 5}}},
		} {
			y := made(t).sets(row...)
			y.set(row[i].key, x.until, true)
			y.is(slices.Concat(x.want, stay)...)
			y.due(7, keysOf(x.want)...)
			y.is(stay...)
			y.due(8, keysOf(stay)...)
			y.is()
		}
	}
}

func TestSetAnewUntilALaterTick(t *testing.T) {
	row := []one{{1, 5}, {2, 5}, {3, 5}, {4, 8}, {5, 8}}
	for i := range 3 {
		stay := slices.Concat(row[:i], row[i+1:3])
		for _, x := range []struct {
			until int
			want  []one
		}{
			{6, []one{{row[i].key, 6}, {4, 8}, {5, 8}}}, {8, []one{{4, 8}, {5, 8}, {row[i].key, 8}}}, {9, []one{{4, 8}, {5, 8}, {row[i].key, 9}}},
			{math.MaxInt, []one{{4, 8}, {5, 8}, {row[i].key, api.MaxTick}}},
		} {
			y := made(t).sets(row...)
			y.set(row[i].key, x.until, true)
			y.is(slices.Concat(stay, x.want)...)
			// At the tick that it was set until first it isn't told.
			y.due(5, keysOf(stay)...)
			y.is(x.want...)
			y.due(max(x.until, 8), keysOf(x.want)...)
			y.is()
		}
	}
}

func TestSetAnewManyTimes(t *testing.T) {
	x := made(t).sets(one{2, 7})
	x.set(1, 3, false)
	for _, until := range []int{3, 9, 9, 2, 7, 7, 0, -5, 1 << 62, math.MaxInt, 6} {
		x.set(1, until, true)
		if until < 7 {
			x.is(one{1, cut(until)}, one{2, 7})
		} else {
			x.is(one{2, 7}, one{1, cut(until)})
		}
	}
	// It is told once, and Cancel of it is of all.
	x.due(6, 1)
	x.due(math.MaxInt, 2)
	x.set(1, 3, false)
	x.set(1, 4, true)
	x.cancel(1, true)
	x.cancel(1, false)
	x.due(math.MaxInt)
	x.is()
}

func TestSetAnewOfTicksThatAreOneGoesBehind(t *testing.T) {
	x := made(t).sets(one{1, -4}, one{2, 0}, one{3, math.MaxInt}, one{4, api.MaxTick})
	x.set(1, -4, true)
	x.is(one{2, 0}, one{1, 0}, one{3, api.MaxTick}, one{4, api.MaxTick})
	x.set(3, api.MaxTick, true)
	x.is(one{2, 0}, one{1, 0}, one{4, api.MaxTick}, one{3, api.MaxTick})
	x.set(4, math.MaxInt-1, true)
	x.set(2, math.MinInt, true)
	x.is(one{1, 0}, one{2, 0}, one{3, api.MaxTick}, one{4, api.MaxTick})
}

func TestCancel(t *testing.T) {
	row := []one{{5, 2}, {-1, 4}, {0, 4}, {7, 4}, {3, 9}}
	for i, o := range row {
		x := made(t).sets(row...)
		for _, key := range []int{1, 2, 4, 9, -5, math.MinInt, math.MaxInt} {
			x.cancel(key, false)
		}
		x.is(row...)
		stay := slices.Concat(row[:i], row[i+1:])
		x.cancel(o.key, true)
		x.is(stay...)
		x.cancel(o.key, false)
		x.is(stay...)
		x.due(9, keysOf(stay)...)
		x.cancel(o.key, false)
		x.is()
	}
}

func TestCancelOfWhatWasToldByDue(t *testing.T) {
	x := made(t).sets(one{1, 3}, one{2, 3}, one{4, 6})
	x.due(3, 1, 2)
	x.cancel(1, false)
	x.cancel(2, false)
	x.is(one{4, 6})
	x.cancel(4, true)
	x.is()
	x.due(6)
	// Set again behind that, it waits.
	x.sets(one{2, 8}, one{1, 8})
	x.is(one{2, 8}, one{1, 8})
	x.cancel(2, true)
	x.due(8, 1)
	x.is()
}

func TestACancelledOneThatIsSetStandsBehind(t *testing.T) {
	x := made(t).sets(one{1, 3}, one{2, 3}, one{4, 3})
	x.cancel(1, true)
	x.set(1, 3, false)
	x.is(one{2, 3}, one{4, 3}, one{1, 3})
	x.due(3, 2, 4, 1)
	x.sets(one{4, 3}, one{2, 3}, one{1, 3}).is(one{4, 3}, one{2, 3}, one{1, 3})
}

func TestCancelOfAllInEachRow(t *testing.T) {
	all := []one{{1, 5}, {2, 5}, {3, 4}, {4, 6}}
	for row := range permutations(all) {
		x, left := made(t).sets(all...), inRow(all)
		for _, o := range row {
			x.cancel(o.key, true)
			left = slices.DeleteFunc(left, func(other one) bool { return other == o })
			x.is(left...)
		}
		x.due(math.MaxInt)
	}
}

func TestDueAtEachTick(t *testing.T) {
	row := []one{{9, 10}, {8, 10}, {1, 20}, {7, 30}, {2, 30}}
	for _, x := range []struct{ now, some int }{
		{math.MinInt, 0}, {-1, 0}, {0, 0}, {5, 0}, {9, 0}, {10, 2}, {11, 2}, {15, 2}, {19, 2}, {20, 3}, {21, 3}, {29, 3}, {30, 5}, {31, 5},
		{api.MaxTick, 5}, {math.MaxInt, 5},
	} {
		y := made(t).sets(row...)
		y.due(x.now, keysOf(row[:x.some])...)
		y.is(row[x.some:]...)
		// Twice in a row: those that were told wait no more.
		y.due(x.now)
		y.is(row[x.some:]...)
		y.due(30, keysOf(row[x.some:])...)
		y.is()
		y.due(30)
	}
}

func TestDueOfTicksThatFall(t *testing.T) {
	x := made(t).sets(one{1, 10}, one{2, 20})
	x.due(15, 1)
	x.due(5)
	// What was due may be set behind it: no tick is kept of Due.
	x.sets(one{3, 4}, one{1, 2}).is(one{1, 2}, one{3, 4}, one{2, 20})
	x.due(1)
	x.due(3, 1)
	x.due(30, 3, 2)
	x.is()
}

func TestFirstAndKeysBehindEachKindOfCall(t *testing.T) {
	x := made(t)
	x.set(4, 7, false)
	x.is(one{4, 7})
	x.set(6, 5, false)
	x.is(one{6, 5}, one{4, 7})
	x.set(6, 7, true)
	x.is(one{4, 7}, one{6, 7})
	x.set(5, 6, false)
	x.is(one{5, 6}, one{4, 7}, one{6, 7})
	x.cancel(4, true)
	x.is(one{5, 6}, one{6, 7})
	x.cancel(4, false)
	x.is(one{5, 6}, one{6, 7})
	x.due(5)
	x.is(one{5, 6}, one{6, 7})
	x.due(6, 5)
	x.is(one{6, 7})
	x.cancel(6, true)
	x.is()
	x.set(0, 0, false)
	x.is(one{0, 0})
	x.due(math.MaxInt, 0)
	x.is()
}

// TestTheKey0AtTheTick0IsToldApartFromNone fails if a zero is taken for none.
func TestTheKey0AtTheTick0IsToldApartFromNone(t *testing.T) {
	x := made(t)
	x.set(0, 0, false)
	x.set(0, 0, true)
	x.is(one{0, 0})
	x.until(0, 0, true)
	x.due(-1, 0)
	x.until(0, 0, false)
	x.cancel(0, false)
	x.is()
}

func TestTwoWheelsAreApart(t *testing.T) {
	x, y := made(t), made(t)
	x.sets(one{1, 5}, one{2, 6})
	y.is()
	y.sets(one{2, 3}, one{1, 4}).is(one{2, 3}, one{1, 4})
	x.is(one{1, 5}, one{2, 6})
	x.cancel(1, true)
	y.is(one{2, 3}, one{1, 4})
	y.due(9, 2, 1)
	x.is(one{2, 6})
}
