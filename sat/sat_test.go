package sat_test

import (
	"math"
	"math/big"
	"testing"

	"empennage/api"
	"empennage/sat"
)

const top = api.MaxTick

// edges are the numbers at and about which the answers turn.
func edges() []int {
	l := []int{math.MinInt, math.MinInt + 1, -top - 1, -top, -top + 1, math.MaxInt - 1, math.MaxInt}
	for n := -3; n <= 3; n++ {
		l = append(l, n, 64+n, 130+n, 1<<31+n, 1<<32+n, top/2+n, top+n)
	}
	for n := 4; n < 62; n += 3 {
		l = append(l, 1<<n, 3<<n>>1, top-1<<n)
	}
	return l
}

// frames are all numbers of ticks a frame has, and some it has not.
func frames() []int {
	l := []int{math.MinInt, -top, -64, -1, 0, 65, 66, 128, top, math.MaxInt}
	for n := 1; n <= 64; n++ {
		l = append(l, n)
	}
	return l
}

// phases are all that any frame has, and some none has.
func phases() []int {
	l := []int{math.MinInt, -top, -65, -64, -2, -1, 64, 65, 130, top, math.MaxInt}
	for n := 0; n < 64; n++ {
		l = append(l, n)
	}
	return l
}

// whole is n without the bounds of an int, so that what is expected can't run over.
func whole(n int) *big.Int { return big.NewInt(int64(n)) }

// nearest is n, or the end of least to most that is nearer to it.
func nearest(n *big.Int, least, most int) int {
	if n.Cmp(whole(least)) < 0 {
		return least
	}
	if n.Cmp(whole(most)) > 0 {
		return most
	}
	return int(n.Int64())
}

func cut(n *big.Int) int { return nearest(n, 0, top) }

// both puts two numbers, cut, through one of big's ways, and cuts what comes.
func both(way func(z, x, y *big.Int) *big.Int, a, b int) int {
	x, y := whole(cut(whole(a))), whole(cut(whole(b)))
	return cut(way(new(big.Int), x, y))
}

// P1.1 is asked by the tests from here on, P1.2 by the last two.

func TestCut(t *testing.T) {
	for _, x := range [][2]int{
		{0, 0}, {1, 1}, {70, 70}, {-1, 0}, {math.MinInt, 0}, {-top, 0},
		{top - 1, top - 1}, {top, top}, {top + 1, top}, {math.MaxInt, top},
	} {
		if got := sat.Cut(x[0]); got != x[1] {
			t.Errorf("Cut(%d) = %d, not %d", x[0], got, x[1])
		}
	}
	for _, n := range edges() {
		if got, want := sat.Cut(n), cut(whole(n)); got != want {
			t.Errorf("Cut(%d) = %d, not %d", n, got, want)
		}
	}
}

func TestSumsWrittenOut(t *testing.T) {
	for _, x := range []struct{ a, b, sum, less, product int }{
		{5, 3, 8, 2, 15},
		{3, 5, 8, 0, 15},
		{0, 0, 0, 0, 0},
		{0, 7, 7, 0, 0},
		{7, 0, 7, 7, 0},
		{-5, 3, 3, 0, 0},
		{5, -3, 5, 5, 0},
		{-5, -3, 0, 0, 0},
		{top, 1, top, top - 1, top},
		{1, top, top, 0, top},
		{top - 1, 1, top, top - 2, top - 1},
		{top - 1, 2, top, top - 3, top},
		{top, top, top, 0, top},
		{top + 1, 1, top, top - 1, top},
		{math.MaxInt, math.MaxInt, top, 0, top},
		{math.MaxInt, 0, top, top, 0},
		{math.MinInt, math.MinInt, 0, 0, 0},
		{math.MinInt, math.MaxInt, top, 0, 0},
		{math.MaxInt, math.MinInt, top, top, 0},
		{1 << 31, 1 << 31, 1 << 32, 0, top},
		{1<<31 - 1, 1 << 31, 1<<32 - 1, 0, top - 1<<31},
		{1 << 32, 1 << 32, 1 << 33, 0, top},
		{3, top / 3, top/3 + 3, 0, top - 1},
		{3, top/3 + 1, top/3 + 4, 0, top},
	} {
		if got := sat.Add(x.a, x.b); got != x.sum {
			t.Errorf("Add(%d, %d) = %d, not %d", x.a, x.b, got, x.sum)
		}
		if got := sat.Sub(x.a, x.b); got != x.less {
			t.Errorf("Sub(%d, %d) = %d, not %d", x.a, x.b, got, x.less)
		}
		if got := sat.Mul(x.a, x.b); got != x.product {
			t.Errorf("Mul(%d, %d) = %d, not %d", x.a, x.b, got, x.product)
		}
		if got := sat.Age(x.a, x.b); got != x.less {
			t.Errorf("Age(%d, %d) = %d, not %d", x.a, x.b, got, x.less)
		}
	}
}

func TestSumsOfAllPairs(t *testing.T) {
	for _, a := range edges() {
		for _, b := range edges() {
			if got, want := sat.Add(a, b), both((*big.Int).Add, a, b); got != want {
				t.Errorf("Add(%d, %d) = %d, not %d", a, b, got, want)
			}
			if got, want := sat.Sub(a, b), both((*big.Int).Sub, a, b); got != want {
				t.Errorf("Sub(%d, %d) = %d, not %d", a, b, got, want)
			}
			if got, want := sat.Mul(a, b), both((*big.Int).Mul, a, b); got != want {
				t.Errorf("Mul(%d, %d) = %d, not %d", a, b, got, want)
			}
			if got, want := sat.Age(a, b), both((*big.Int).Sub, a, b); got != want {
				t.Errorf("Age(%d, %d) = %d, not %d", a, b, got, want)
			}
			if got, want := sat.Late(a, b), cut(whole(a)) >= cut(whole(b)); got != want {
				t.Errorf("Late(%d, %d) = %v, not %v", a, b, got, want)
			}
		}
	}
}

func TestAgeAndLate(t *testing.T) {
	for _, x := range []struct {
		now, at, age int
		late         bool
	}{
		{9, 4, 5, true},
		{4, 4, 0, true},
		{3, 4, 0, false},
		{0, 0, 0, true},
		{0, -4, 0, true},
		{-4, 0, 0, true},
		{-4, -3, 0, true},
		{-1, 1, 0, false},
		{top, 0, top, true},
		{0, top, 0, false},
		{top, top + 1, 0, true},
		{top - 1, top, 0, false},
		{top - 1, math.MaxInt, 0, false},
		{math.MaxInt, math.MinInt, top, true},
		{math.MinInt, math.MaxInt, 0, false},
		{math.MinInt, math.MinInt, 0, true},
	} {
		if got := sat.Age(x.now, x.at); got != x.age {
			t.Errorf("Age(%d, %d) = %d, not %d", x.now, x.at, got, x.age)
		}
		if got := sat.Late(x.now, x.at); got != x.late {
			t.Errorf("Late(%d, %d) = %v, not %v", x.now, x.at, got, x.late)
		}
	}
}

func TestFramesWrittenOut(t *testing.T) {
	for _, x := range []struct{ now, frame, phase, round int }{
		{0, 1, 0, 0},
		{0, 64, 0, 0},
		{25, 10, 5, 2},
		{29, 10, 9, 2},
		{30, 10, 0, 3},
		{70, 64, 6, 1},
		{63, 64, 63, 0},
		{64, 64, 0, 1},
		{25, 1, 0, 25},
		{25, 0, 0, 25},
		{25, -1, 0, 25},
		{25, math.MinInt, 0, 25},
		{130, 65, 2, 2},
		{130, 99, 2, 2},
		{130, math.MaxInt, 2, 2},
		{-1, 10, 0, 0},
		{math.MinInt, 10, 0, 0},
		{math.MinInt, math.MinInt, 0, 0},
		{top, 1, 0, top},
		{top, 64, 0, top / 64},
		{top - 1, 64, 63, top/64 - 1},
		{top, 10, 4, top / 10},
		{top + 1, 10, 4, top / 10},
		{math.MaxInt, 10, 4, top / 10},
		{math.MaxInt, math.MaxInt, 0, top / 64},
	} {
		if got := sat.Phase(x.now, x.frame); got != x.phase {
			t.Errorf("Phase(%d, %d) = %d, not %d", x.now, x.frame, got, x.phase)
		}
		if got := sat.Round(x.now, x.frame); got != x.round {
			t.Errorf("Round(%d, %d) = %d, not %d", x.now, x.frame, got, x.round)
		}
	}
}

func TestNextWrittenOut(t *testing.T) {
	for _, x := range []struct{ now, frame, phase, next int }{
		{0, 1, 0, 0},
		{25, 10, 5, 25},
		{25, 10, 4, 34},
		{25, 10, 6, 26},
		{25, 10, 0, 30},
		{25, 10, 9, 29},
		{25, 10, 10, 29},
		{25, 10, 99, 29},
		{25, 10, math.MaxInt, 29},
		{25, 10, -1, 30},
		{25, 10, math.MinInt, 30},
		{25, 0, 5, 25},
		{25, 1, 5, 25},
		{25, math.MinInt, math.MaxInt, 25},
		{130, 64, 1, 193},
		{130, 99, 1, 193},
		{130, math.MaxInt, 70, 191},
		{-7, 10, 3, 3},
		{math.MinInt, 10, 0, 0},
		{top - 1, 64, 63, top - 1},
		{top - 1, 64, 0, top},
		{top - 1, 64, 1, top},
		{top, 64, 0, top},
		{top, 64, 63, top},
		{top, 10, 4, top},
		{top, 10, 3, top},
		{top - 2, 10, 3, top - 1},
		{math.MaxInt, 64, 5, top},
		{math.MaxInt, math.MaxInt, math.MaxInt, top},
	} {
		if got := sat.Next(x.now, x.frame, x.phase); got != x.next {
			t.Errorf("Next(%d, %d, %d) = %d, not %d", x.now, x.frame, x.phase, got, x.next)
		}
	}
}

func TestFramesOfAllNumbers(t *testing.T) {
	for _, now := range edges() {
		for _, frame := range frames() {
			tick, ticks := cut(whole(now)), nearest(whole(frame), 1, 64)
			if got, want := sat.Phase(now, frame), tick%ticks; got != want {
				t.Errorf("Phase(%d, %d) = %d, not %d", now, frame, got, want)
			}
			if got, want := sat.Round(now, frame), tick/ticks; got != want {
				t.Errorf("Round(%d, %d) = %d, not %d", now, frame, got, want)
			}
		}
	}
}

// The tick is looked for one by one here, as the document words it.
func TestNextOfAllNumbers(t *testing.T) {
	for _, now := range edges() {
		for _, frame := range frames() {
			ticks := nearest(whole(frame), 1, 64)
			for _, phase := range phases() {
				want := cut(whole(now))
				for want < top && want%ticks != nearest(whole(phase), 0, ticks-1) {
					want++
				}
				if got := sat.Next(now, frame, phase); got != want {
					t.Fatalf("Next(%d, %d, %d) = %d, not %d", now, frame, phase, got, want)
				}
			}
		}
	}
}

func TestSumsAndDifferences(t *testing.T) {
	for _, a := range edges() {
		for _, b := range edges() {
			sum := sat.Add(a, b)
			if sum < sat.Cut(a) || sum < sat.Cut(b) || sum != sat.Add(b, a) {
				t.Errorf("Add(%d, %d) = %d", a, b, sum)
			}
			if less := sat.Sub(a, b); less < 0 || less > sat.Cut(a) {
				t.Errorf("Sub(%d, %d) = %d", a, b, less)
			}
			exact := new(big.Int).Add(whole(sat.Cut(a)), whole(sat.Cut(b)))
			if exact.Cmp(whole(top)) > 0 {
				continue
			}
			if sat.Sub(sum, a) != sat.Cut(b) || sat.Sub(sum, b) != sat.Cut(a) {
				t.Errorf("%d and %d: %d, which leaves %d and %d", a, b, sum, sat.Sub(sum, b), sat.Sub(sum, a))
			}
		}
	}
}

func TestATickIsItsFramesAndItsPhase(t *testing.T) {
	for _, now := range edges() {
		for _, frame := range frames() {
			ticks := nearest(whole(frame), 1, 64)
			phase, round := sat.Phase(now, frame), sat.Round(now, frame)
			if phase < 0 || phase >= ticks || sat.Add(sat.Mul(round, ticks), phase) != sat.Cut(now) {
				t.Errorf("%d is %d frames of %d and %d", now, round, ticks, phase)
			}
		}
	}
}
