package lane_test

import (
	"math"
	"math/rand/v2"
	"testing"

	"empennage/api"
)

// ticks are some at which it turns which tick is no less than which.
func ticks() []int {
	return []int{
		math.MinInt, math.MinInt + 1, -api.MaxTick, -1 << 32, -2, -1, 0, 1, 2, 10, 1 << 31, 1 << 32,
		api.MaxTick - 2, api.MaxTick - 1, api.MaxTick, api.MaxTick + 1, api.MaxTick + 2, math.MaxInt - 1, math.MaxInt,
	}
}

// cut is the number of a tick that is nearest to n.
func cut(n int) int { return min(max(n, 0), 1<<62) }

// parted is which of the messages are late at that tick, and which aren't.
func parted(list []api.Message, now int) (gone, stay []api.Message) {
	for _, m := range list {
		if cut(now) >= cut(m.Late) {
			gone = append(gone, m)
		} else {
			stay = append(stay, m)
		}
	}
	return gone, stay
}

// sweep fails unless what is late of these, and nothing else, is taken out.
func (x look) sweep(now int, all []api.Message) {
	x.t.Helper()
	gone, stay := parted(all, now)
	x.list("Sweep", x.l.Sweep(now), gone)
	x.is(stay...)
	x.list("Sweep again", x.l.Sweep(now), nil)
	x.is(stay...)
}

func TestSweepBelowAtAndAboveLate(t *testing.T) {
	for lanes := 1; lanes <= 3; lanes++ {
		for i := range lanes {
			m := late(i, 50, 1)
			x := made(t, lanes, 2).puts(m)
			x.list("Sweep below Late", x.l.Sweep(49), nil)
			x.is(m)
			x.list("Sweep at Late", x.l.Sweep(50), []api.Message{m})
			x.none()
			x.puts(m)
			x.list("Sweep above Late", x.l.Sweep(51), []api.Message{m})
			x.none()
		}
	}
}

func TestSweepAtTheEndsOfTicks(t *testing.T) {
	m := late(0, 0, 1)
	for _, x := range []struct {
		late, now int
		goes      bool
	}{
		{0, -1, true}, {0, 0, true}, {0, math.MinInt, true}, {-5, -9, true}, {-1, 0, true}, {math.MinInt, math.MinInt, true},
		{math.MinInt, -1, true}, {1, 0, false}, {1, -1, false}, {1, math.MinInt, false},
		{api.MaxTick, api.MaxTick - 1, false}, {api.MaxTick, api.MaxTick, true}, {api.MaxTick + 1, api.MaxTick, true},
		{math.MaxInt, api.MaxTick, true}, {math.MaxInt, api.MaxTick - 1, false}, {math.MaxInt, math.MaxInt - 1, true},
		{math.MaxInt, math.MinInt, false}, {math.MinInt, math.MaxInt, true}, {api.MaxTick - 1, math.MaxInt, true},
	} {
		m.Late = x.late
		if gone := made(t, 1, 1).puts(m).l.Sweep(x.now); (len(gone) == 1) != x.goes {
			t.Errorf("late at %d, swept at %d: %+v", x.late, x.now, gone)
		}
	}
}

func TestSweepOfAnyTickAndLate(t *testing.T) {
	for _, now := range ticks() {
		for _, a := range ticks() {
			for _, b := range ticks() {
				all := []api.Message{late(0, a, 1), late(0, b, 2), late(2, b, 3), late(2, a, 4)}
				made(t, 3, 2).puts(all...).sweep(now, all)
			}
		}
	}
}

func TestSweepOfNoneOfSomeOfAll(t *testing.T) {
	// Which of six messages, two a lane, are late: what stays keeps its row.
	for some := range 1 << 6 {
		var all []api.Message
		for i := range 6 {
			all = append(all, late(i/2, 100-some>>i%2*50, i))
		}
		made(t, 3, 2).puts(all...).sweep(49, all)
		made(t, 3, 2).puts(all...).sweep(50, all)
		made(t, 3, 2).puts(all...).sweep(99, all)
		made(t, 3, 2).puts(all...).sweep(100, all)
	}
}

func TestSweepIsOfEachMessageNotOfTheFirstOnes(t *testing.T) {
	// In each lane the later a message stands the sooner it is late.
	x := made(t, 2, 3)
	a, b, c := late(0, 30, 1), late(0, 20, 2), late(0, 10, 3)
	d, e, f := late(1, 25, 4), late(1, 15, 5), late(1, 5, 6)
	x.puts(d, a, e, b, f, c)
	x.list("Sweep", x.l.Sweep(9), []api.Message{f})
	x.list("Sweep", x.l.Sweep(15), []api.Message{c, e})
	x.is(a, b, d)
	x.puts(late(0, 12, 7))
	x.is(a, b, late(0, 12, 7), d)
	x.list("Sweep", x.l.Sweep(20), []api.Message{b, late(0, 12, 7)})
	x.list("Sweep", x.l.Sweep(30), []api.Message{a, d})
	x.none()
}

func TestSweepOfDrawnTicks(t *testing.T) {
	random := rand.New(rand.NewPCG(29, 29))
	for range 3000 {
		lanes, places := 1+random.IntN(3), 1+random.IntN(8)
		x := made(t, lanes, places)
		var all []api.Message
		tick := func() int {
			if random.IntN(4) == 0 {
				return ticks()[random.IntN(len(ticks()))]
			}
			return random.IntN(20)
		}
		for i := range lanes {
			for range random.IntN(places + 1) {
				all = append(all, late(i, tick(), len(all)))
			}
		}
		x.puts(all...)
		for range 4 {
			now := tick()
			x.sweep(now, all)
			_, all = parted(all, now)
		}
	}
}
