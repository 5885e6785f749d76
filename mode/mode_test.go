package mode_test

import (
	"iter"
	"math"
	"slices"
	"testing"

	"empennage/api"
	"empennage/mode"
)

// P15.1 is asked by the tests of this file, each edge written out, and of record_test.go; R4 by those of memory_test.go.

// ends are numbers, of partitions and of actions, at which something could turn.
func ends() []int {
	return []int{
		math.MinInt, math.MinInt + 1, -1 << 62, -1 << 32, -1<<32 + 1, -1 << 31, -256, -255, -4, -3, -2, -1, 0, 1, 2, 3, 4, 5, 6, 7, 63, 64,
		255, 256, 257, 1 << 31, 1<<31 + 1, 1 << 32, 1<<32 + 1, 1<<32 + 2, 1 << 62, 1<<62 + 1, math.MaxInt - 1, math.MaxInt,
	}
}

// modes and actions are all that there are.
func modes() []int   { return []int{api.Normal, api.Warm, api.Stopped} }
func actions() []int { return []int{api.Ignore, api.Restart, api.Stop} }

// lists are all lists of so many actions.
func lists(n int) iter.Seq[[]int] {
	return func(yield func([]int) bool) {
		var put func(list []int) bool
		put = func(list []int) bool {
			if len(list) == n {
				return yield(slices.Clone(list))
			}
			for _, action := range actions() {
				if !put(append(list, action)) {
					return false
				}
			}
			return true
		}
		put(nil)
	}
}

// look holds partitions against what they are to be.
type look struct {
	t *testing.T
	m *mode.Modes
}

func made(t *testing.T, actions ...int) look { return look{t, mode.New(actions)} }

// fault fails unless that is what is done, or why it isn't.
func (x look) fault(p, action int, e api.Errno) {
	x.t.Helper()
	if got, why := x.m.Fault(p); got != action || why != e {
		x.t.Errorf("Fault(%d) = %d, %v, not %d, %v", p, got, why, action, e)
	}
}

// again fails unless this is answered.
func (x look) again(p int, e api.Errno) {
	x.t.Helper()
	if why := x.m.Again(p); why != e {
		x.t.Errorf("Again(%d) = %v, not %v", p, why, e)
	}
}

// up fails unless the partition was Warm, or was not, as told.
func (x look) up(p int, was bool) {
	x.t.Helper()
	if got := x.m.Up(p); got != was {
		x.t.Errorf("Up(%d) = %v", p, got)
	}
}

// mode fails unless the partition's mode is this one, or there is none.
func (x look) mode(p, want int, there bool) {
	x.t.Helper()
	if got, is := x.m.Mode(p); got != want || is != there {
		x.t.Errorf("Mode(%d) = %d, %v, not %d, %v", p, got, is, want, there)
	}
}

// starts fails unless the partition was Up so often.
func (x look) starts(p, want int) {
	x.t.Helper()
	if got := x.m.Starts(p); got != want {
		x.t.Errorf("Starts(%d) = %d, not %d", p, got, want)
	}
}

// has fails unless the partition's mode is this one, and it was Up so often.
func (x look) has(p, want, starts int) {
	x.t.Helper()
	x.mode(p, want, true)
	x.starts(p, starts)
}

// is fails unless there are these partitions, with these modes, and no others; it asks twice, as asking turns nothing.
func (x look) is(want ...int) look {
	x.t.Helper()
	for range 2 {
		if all := x.m.All(); !slices.Equal(all, want) {
			x.t.Errorf("All() = %v, not %v", all, want)
		}
		for _, p := range ends() {
			if p < 0 || p >= len(want) {
				x.mode(p, 0, false)
				x.starts(p, 0)
			} else {
				x.mode(p, want[p], true)
			}
		}
	}
	return x
}

// refuses fails unless there is no such partition for any call.
func (x look) refuses(p int) {
	x.t.Helper()
	x.mode(p, 0, false)
	x.fault(p, api.Ignore, api.ErrRange)
	x.again(p, api.ErrRange)
	x.up(p, false)
	x.starts(p, 0)
}

// into brings a partition that is Normal into the mode, by no fault of another one. Into Stopped only one of the action Stop can come.
func (x look) into(p, to int) {
	x.t.Helper()
	switch to {
	case api.Warm:
		x.again(p, api.NoError)
	case api.Stopped:
		x.fault(p, api.Stop, api.NoError)
	}
	x.mode(p, to, true)
}

// done is what is done of a fault of a partition of that action that is Normal, and the mode behind it.
func done(action int) int {
	return map[int]int{api.Ignore: api.Normal, api.Restart: api.Warm, api.Stop: api.Stopped}[action]
}

func TestNil(t *testing.T) {
	x := look{t, nil}
	for range 2 {
		x.is()
		for _, p := range ends() {
			x.refuses(p)
		}
	}
}

func TestPartitionsThatNewDidNotMakeAreNone(t *testing.T) {
	x := look{t, &mode.Modes{}}
	for range 2 {
		x.is()
		for _, p := range ends() {
			x.refuses(p)
		}
	}
}

func TestExample(t *testing.T) {
	x := made(t, api.Restart).is(api.Normal)
	x.fault(0, api.Restart, api.NoError)
	x.is(api.Warm).has(0, api.Warm, 0)
	x.up(0, true)
	x.is(api.Normal).has(0, api.Normal, 1)
}

func TestNewOfNoActionIsOneThatIgnores(t *testing.T) {
	for _, none := range [][]int{nil, {}, make([]int, 0, 7), []int{2, 2, 2}[:0]} {
		x := look{t, mode.New(none)}
		x.is(api.Normal)
		x.fault(0, api.Ignore, api.NoError)
		x.is(api.Normal).has(0, api.Normal, 0)
		x.again(0, api.NoError)
		x.is(api.Warm)
		x.up(0, true)
		x.is(api.Normal).has(0, api.Normal, 1)
		x.refuses(1)
		x.refuses(-1)
	}
}

func TestNewOfOneToFourActions(t *testing.T) {
	for n := 1; n <= 4; n++ {
		for list := range lists(n) {
			x, want := made(t, list...), make([]int, n)
			x.is(want...)
			for p, action := range list {
				x.fault(p, action, api.NoError)
				want[p] = done(action)
				x.is(want...)
			}
			x.refuses(n)
		}
	}
}

func TestNewOfMoreActionsTakesTheFirstFour(t *testing.T) {
	for first := range lists(4) {
		for _, more := range [][]int{{0}, {1}, {2}, {2, 1}, {7, -1, 2}, make([]int, 60), make([]int, 5000)} {
			x, want := made(t, slices.Concat(first, more)...), make([]int, 4)
			x.is(want...)
			for p, action := range first {
				x.fault(p, action, api.NoError)
				want[p] = done(action)
			}
			x.is(want...)
			for p := 4; p < 4+len(more) && p < 70; p++ {
				x.refuses(p)
			}
			x.is(want...)
		}
	}
}

func TestAnActionOutOf0To2IsIgnore(t *testing.T) {
	for _, action := range ends() {
		want := action
		if action < 0 || action > 2 {
			want = api.Ignore
		}
		for p := range 4 {
			// Ahead of it, and behind it, stand others.
			list := []int{api.Restart, api.Stop, api.Restart, api.Stop}
			list[p] = action
			for n := p + 1; n <= 4; n++ {
				x, all := made(t, list[:n]...), make([]int, n)
				x.fault(p, want, api.NoError)
				all[p] = done(want)
				x.is(all...)
				for other := range n {
					if other != p {
						x.fault(other, list[other], api.NoError)
						all[other] = done(list[other])
					}
				}
				x.is(all...)
			}
		}
	}
}

func TestAllAreNormalAtFirst(t *testing.T) {
	for n := 1; n <= 4; n++ {
		for list := range lists(n) {
			x := made(t, list...)
			x.is(make([]int, n)...)
			for p := range n {
				x.has(p, api.Normal, 0)
			}
		}
	}
}

// each makes partitions of all actions in all modes that they may have, and hands on the number of one, its action and its mode.
func each(t *testing.T, ask func(x look, p, action, is int)) {
	t.Helper()
	for n := 1; n <= 4; n++ {
		for list := range lists(n) {
			for p, action := range list {
				for _, is := range modes() {
					if is == api.Stopped && action != api.Stop {
						continue
					}
					x := made(t, list...)
					x.into(p, is)
					ask(x, p, action, is)
				}
			}
		}
	}
}

// others fails unless all others are Normal as they were, and never were Up.
func (x look) others(p int) {
	x.t.Helper()
	for other := range x.m.All() {
		if other != p {
			x.has(other, api.Normal, 0)
		}
	}
}

func TestFaultInEachModeWithEachAction(t *testing.T) {
	each(t, func(x look, p, action, is int) {
		if is != api.Normal {
			x.fault(p, api.Ignore, api.InvalidMode)
			x.has(p, is, 0)
			x.fault(p, api.Ignore, api.InvalidMode)
			x.has(p, is, 0)
		} else {
			x.fault(p, action, api.NoError)
			x.has(p, done(action), 0)
			// Of one that is ignored another one may come.
			if action == api.Ignore {
				x.fault(p, api.Ignore, api.NoError)
				x.has(p, api.Normal, 0)
			} else {
				x.fault(p, api.Ignore, api.InvalidMode)
				x.has(p, done(action), 0)
			}
		}
		x.others(p)
	})
}

func TestAgainInEachModeWithEachAction(t *testing.T) {
	each(t, func(x look, p, _, is int) {
		e, then := api.NoError, api.Warm
		switch is {
		case api.Warm:
			e = api.NoAction
		case api.Stopped:
			e, then = api.InvalidMode, api.Stopped
		}
		x.again(p, e)
		x.has(p, then, 0)
		if is == api.Stopped {
			x.again(p, api.InvalidMode)
		} else {
			x.again(p, api.NoAction)
		}
		x.has(p, then, 0)
		x.others(p)
	})
}

func TestUpInEachModeWithEachAction(t *testing.T) {
	each(t, func(x look, p, _, is int) {
		if is == api.Warm {
			x.up(p, true)
			x.has(p, api.Normal, 1)
			x.up(p, false)
			x.has(p, api.Normal, 1)
		} else {
			x.up(p, false)
			x.has(p, is, 0)
			x.up(p, false)
			x.has(p, is, 0)
		}
		x.others(p)
	})
}

func TestAgainBehindAnyNumberOfUps(t *testing.T) {
	for _, action := range actions() {
		x := made(t, api.Stop, action, api.Stop)
		for n := range 300 {
			x.has(1, api.Normal, n)
			x.up(1, false)
			x.again(1, api.NoError)
			x.has(1, api.Warm, n)
			x.again(1, api.NoAction)
			x.fault(1, api.Ignore, api.InvalidMode)
			x.has(1, api.Warm, n)
			x.up(1, true)
		}
		x.is(api.Normal, api.Normal, api.Normal)
		x.others(1)
		// And its fault is as it was at first.
		x.fault(1, action, api.NoError)
		x.has(1, done(action), 300)
	}
}

func TestUpBehindAFaultAndBehindAgainAreCountedAlike(t *testing.T) {
	x := made(t, api.Restart)
	for n := range 70 {
		if n%3 == 1 {
			x.again(0, api.NoError)
		} else {
			x.fault(0, api.Restart, api.NoError)
		}
		x.has(0, api.Warm, n)
		x.up(0, true)
		x.has(0, api.Normal, n+1)
	}
}

func TestWhoIsStoppedStaysSo(t *testing.T) {
	for ups := range 4 {
		x := made(t, api.Restart, api.Stop)
		for range ups {
			x.again(1, api.NoError)
			x.up(1, true)
		}
		x.fault(1, api.Stop, api.NoError)
		for range 5 {
			x.has(1, api.Stopped, ups)
			x.again(1, api.InvalidMode)
			x.has(1, api.Stopped, ups)
			x.up(1, false)
			x.has(1, api.Stopped, ups)
			x.fault(1, api.Ignore, api.InvalidMode)
			// Nor does what comes to the other one turn it.
			x.fault(0, api.Restart, api.NoError)
			x.has(1, api.Stopped, ups)
			x.up(0, true)
		}
		x.is(api.Normal, api.Stopped)
	}
}

func TestAWarmOneIsStoppedByAFaultThatComesWhenItIsUp(t *testing.T) {
	x := made(t, api.Stop)
	x.again(0, api.NoError)
	x.fault(0, api.Ignore, api.InvalidMode)
	x.has(0, api.Warm, 0)
	x.up(0, true)
	x.fault(0, api.Stop, api.NoError)
	x.has(0, api.Stopped, 1)
}

func TestPartitionsThatAreNotThere(t *testing.T) {
	for n := 1; n <= 4; n++ {
		for list := range lists(n) {
			x, all := made(t, list...), make([]int, n)
			for p, action := range list {
				x.fault(p, action, api.NoError)
				all[p] = done(action)
			}
			for _, p := range ends() {
				if p < 0 || p >= n {
					x.refuses(p)
				}
			}
			x.is(all...)
			// Those that aren't there are there no more than before behind any call.
			for _, p := range []int{-1, n, 4, math.MinInt, math.MaxInt} {
				x.refuses(p)
			}
			x.is(all...)
			for p, action := range list {
				was := done(action) == api.Warm
				x.up(p, was)
				if was {
					x.starts(p, 1)
				} else {
					x.starts(p, 0)
				}
			}
		}
	}
}

func TestTheFirstAndTheLastOfEachNumber(t *testing.T) {
	for n := 1; n <= 4; n++ {
		list := make([]int, n)
		for i := range list {
			list[i] = api.Restart
		}
		for _, p := range []int{0, n - 1} {
			x, all := made(t, list...), make([]int, n)
			x.fault(p, api.Restart, api.NoError)
			all[p] = api.Warm
			x.is(all...)
			x.again(p, api.NoAction)
			x.up(p, true)
			x.is(make([]int, n)...)
			x.has(p, api.Normal, 1)
			x.others(p)
			x.refuses(n)
			x.refuses(-1)
			x.has(p, api.Normal, 1)
		}
	}
}

func TestTwoOfThemAreApart(t *testing.T) {
	x, y := made(t, api.Restart, api.Stop), made(t, api.Stop, api.Restart, api.Ignore)
	x.fault(0, api.Restart, api.NoError)
	x.is(api.Warm, api.Normal)
	y.is(api.Normal, api.Normal, api.Normal)
	y.fault(0, api.Stop, api.NoError)
	y.again(2, api.NoError)
	x.is(api.Warm, api.Normal)
	y.is(api.Stopped, api.Normal, api.Warm)
	x.up(0, true)
	y.has(0, api.Stopped, 0)
	y.up(2, true)
	x.fault(1, api.Stop, api.NoError)
	x.is(api.Normal, api.Stopped).has(0, api.Normal, 1)
	y.is(api.Stopped, api.Normal, api.Normal).has(2, api.Normal, 1)
	// Nor does a new one of the same actions know of either.
	made(t, api.Restart, api.Stop).is(api.Normal, api.Normal).has(0, api.Normal, 0)
}
