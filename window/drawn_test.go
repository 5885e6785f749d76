package window_test

import (
	"iter"
	"math/rand/v2"
	"slices"
	"testing"

	"empennage/api"
	"empennage/config"
	"empennage/window"
)

// P13.2 is asked by the tests of this file, most of it by what the calls themselves answer.

// draws are many configs that may be: all of good, and drawn ones.
func draws(seed uint64, many int) iter.Seq[api.Config] {
	return func(yield func(api.Config) bool) {
		for _, c := range inRow(good()) {
			if !yield(c) {
				return
			}
		}
		r := rand.New(rand.NewPCG(seed, 13))
		for range many {
			if !yield(drawn(r)) {
				return
			}
		}
	}
}

// is tells whether the tick is that owner's.
func is(c api.Config, owner, tick int) bool {
	who, so := window.Whose(c, tick)
	return so && who == owner
}

// spans are ticks from which on two frames are gone through: the first one, some later ones, and the last one whose frames end below 2^62.
func spans(frame int) []int {
	return []int{0, 5*frame + frame/2, 1 << 33, top/2 - 3, top - 2*frame - 1}
}

func TestDrawnConfigsMayBe(t *testing.T) {
	frames, windows, queues := map[int]int{}, map[int]int{}, map[int]int{}
	for c := range draws(1, 3000) {
		if at, e := config.Check(c); e != api.NoError {
			t.Fatalf("%+v, %v: %+v", at, e, c)
		}
		frames[c.Frame]++
		windows[len(c.Windows)]++
		queues[len(newRecord(c, true).places)]++
	}
	// There are some of each kind that may be.
	if len(frames) != 64 || len(windows) != 8 || len(queues) != 7 {
		t.Errorf("%d frames, %d numbers of windows, %d numbers of queuing channels", len(frames), len(windows), len(queues))
	}
	for name, c := range bad() {
		if _, e := config.Check(c); e != api.InvalidConfig {
			t.Errorf("%s may be: %+v", name, c)
		}
	}
}

func TestDrawnConfigsAsTheRecord(t *testing.T) {
	t.Parallel()
	r := rand.New(rand.NewPCG(2, 13))
	for c := range draws(2, 1500) {
		x := newRecord(c, true)
		for range 100 {
			owner, now := draw(r, api.Router, 4), draw(r, 0, 6*c.Frame)
			switch r.IntN(4) {
			case 0:
				now += top - 4*c.Frame
			case 1:
				now = r.IntN(top)
			}
			for kind := range kinds {
				asTold(t, c, x, call{kind, owner, now})
			}
			asTold(t, c, x, call{aNth, owner, x.Before(owner, now)})
		}
		if t.Failed() {
			t.Fatalf("%+v", c)
		}
	}
}

func TestEachTickIsOneOwnersAtMost(t *testing.T) {
	t.Parallel()
	for c := range draws(3, 600) {
		for _, first := range spans(c.Frame) {
			for tick := first; tick < first+2*c.Frame; tick++ {
				var all []int
				for _, owner := range owners() {
					// The tick is an owner's, if no other one comes ahead of it, and if one more of its ticks is below the next one.
					own := window.Until(c, owner, tick) == tick
					if more := window.Before(c, owner, tick+1) - window.Before(c, owner, tick); more != 0 && more != 1 || own != (more == 1) {
						t.Errorf("of the owner %d at %d: until %d, and %d more", owner, tick, window.Until(c, owner, tick), more)
					}
					if own != is(c, owner, tick) {
						t.Errorf("of the owner %d at %d: until %d", owner, tick, window.Until(c, owner, tick))
					}
					if own {
						all = append(all, owner)
					}
				}
				who, so := window.Whose(c, tick)
				if so && !slices.Equal(all, []int{who}) || !so && (len(all) > 0 || who != 0) {
					t.Errorf("the tick %d is %d's, %v, and of these: %v", tick, who, so, all)
				}
			}
		}
		if t.Failed() {
			t.Fatalf("%+v", c)
		}
	}
}

func TestCountsAreTheFrame(t *testing.T) {
	t.Parallel()
	for c := range draws(4, 2000) {
		sum := 0
		for _, owner := range owners() {
			sum += window.Count(c, owner)
		}
		for _, first := range []int{0, 3, 1 << 40, top - c.Frame} {
			others := 0
			counted := map[int]int{}
			for tick := first; tick < first+c.Frame; tick++ {
				if who, so := window.Whose(c, tick); so {
					counted[who]++
				} else {
					others++
				}
			}
			for _, owner := range owners() {
				if n := window.Count(c, owner); n != counted[owner] || window.Before(c, owner, first+c.Frame)-window.Before(c, owner, first) != n {
					t.Errorf("Count(%d) = %d, not %d", owner, n, counted[owner])
				}
			}
			if sum+others != c.Frame {
				t.Errorf("%d of owners, %d of no one, of %d", sum, others, c.Frame)
			}
		}
		if t.Failed() {
			t.Fatalf("%+v", c)
		}
	}
}

func TestUntilLeavesNoneOut(t *testing.T) {
	t.Parallel()
	for c := range draws(5, 600) {
		for owner := api.Router; owner < c.Partitions; owner++ {
			for _, first := range spans(c.Frame) {
				for now := first; now < first+2*c.Frame; now++ {
					until := window.Until(c, owner, now)
					if window.Count(c, owner) == 0 {
						number(t, "Until", owner, now, until, -1)
						continue
					}
					if until < now || until >= now+c.Frame || until < top && !is(c, owner, until) {
						t.Errorf("Until(%d, %d) = %d", owner, now, until)
						continue
					}
					for tick := now; tick < until; tick++ {
						if is(c, owner, tick) {
							t.Errorf("Until(%d, %d) = %d, but there is %d", owner, now, until, tick)
						}
					}
				}
			}
		}
		if t.Failed() {
			t.Fatalf("%+v", c)
		}
	}
}

// nths are some numbers of ticks behind each other: the first ones, some later ones, and those about the last one below 2^62.
func nths(c api.Config, owner int) iter.Seq[int] {
	return func(yield func(int) bool) {
		last := window.Before(c, owner, top)
		for _, first := range []int{0, 1 << 33, last / 2, last - 20} {
			for n := range 40 {
				// Of few ticks in long frames those above these are none any more.
				if n := max(first, 0) + n; n <= last+10 && !yield(n) {
					return
				}
			}
		}
	}
}

func TestNthLeavesNoneOut(t *testing.T) {
	t.Parallel()
	for c := range draws(6, 600) {
		for owner := api.Router; owner < c.Partitions; owner++ {
			for n := range nths(c, owner) {
				tick, next := window.Nth(c, owner, n), window.Nth(c, owner, n+1)
				if window.Count(c, owner) == 0 {
					number(t, "Nth", owner, n, tick, -1)
					continue
				}
				if tick == top {
					// It is the last one, or cut: one less, or none less, is below.
					if before := window.Before(c, owner, top); next != top || before > n {
						t.Errorf("Nth(%d, %d) = %d, then %d, and %d are below", owner, n, tick, next, before)
					}
					continue
				}
				number(t, "Before", owner, tick, window.Before(c, owner, tick), n)
				if !is(c, owner, tick) || next <= tick || next > tick+c.Frame || next != window.Until(c, owner, tick+1) {
					t.Errorf("Nth(%d, %d) = %d, then %d", owner, n, tick, next)
					continue
				}
				for between := tick + 1; between < next; between++ {
					if is(c, owner, between) {
						t.Errorf("Nth(%d, %d) = %d, then %d, but there is %d", owner, n, tick, next, between)
					}
				}
			}
		}
		if t.Failed() {
			t.Fatalf("%+v", c)
		}
	}
}

// The router serves one channel behind the other, in their row, and each as often.
func TestServesByTurns(t *testing.T) {
	t.Parallel()
	for c := range draws(7, 600) {
		places := newRecord(c, true).places
		for _, first := range spans(c.Frame) {
			last := -1
			for tick := first; tick < first+2*c.Frame; tick++ {
				place, so := window.Serves(c, tick)
				if so != (is(c, api.Router, tick) && len(places) > 0) || !so && place != 0 {
					t.Errorf("Serves(%d) = %d, %v", tick, place, so)
				}
				if !so {
					continue
				}
				at := slices.Index(places, place)
				if at < 0 || last >= 0 && at != (last+1)%len(places) {
					t.Errorf("Serves(%d) = %d, behind the one at %d of %v", tick, place, last, places)
				}
				last = at
			}
		}
		if t.Failed() {
			t.Fatalf("%+v", c)
		}
	}
}

// drawnCall is any, of a config of such frames.
func drawnCall(r *rand.Rand, frame int) call {
	x := call{r.IntN(kinds), draw(r, api.Router, 4), draw(r, 0, 8*frame)}
	if r.IntN(4) == 0 {
		x.n = ends()[r.IntN(len(ends()))]
	}
	return x
}

// Of a config the calls answer the same in any row, whatever was asked between, of it and of others.
func TestCallsInAnyRow(t *testing.T) {
	t.Parallel()
	r := rand.New(rand.NewPCG(8, 13))
	type asked struct {
		c api.Config
		call
		told
	}
	for range 20 {
		var all []asked
		configs := slices.Collect(draws(r.Uint64(), 40))
		configs = append(configs, inRow(bad())...)
		for _, c := range configs {
			for range 40 {
				x := drawnCall(r, max(1, min(c.Frame, 64)))
				all = append(all, asked{c, x, answer(c, x)})
			}
		}
		for range 3 {
			r.Shuffle(len(all), func(i, j int) { all[i], all[j] = all[j], all[i] })
			for _, a := range all {
				if got := answer(a.c, a.call); got != a.told {
					t.Fatalf("%s: %+v, then %+v, of %+v", a.call, a.told, got, a.c)
				}
				// One that is the same, in other memory, with empty lists in the place of nil ones.
				if got := answer(inOtherMemory(a.c), a.call); got != a.told {
					t.Fatalf("%s: %+v, of the same config in other memory %+v, of %+v", a.call, a.told, got, a.c)
				}
			}
		}
	}
}

// inOtherMemory is the same config, whose empty lists aren't nil.
func inOtherMemory(c api.Config) api.Config {
	c.Windows = append([]api.Window{}, c.Windows...)
	c.Channels = append([]api.Channel{}, c.Channels...)
	c.Actions = append([]int{}, c.Actions...)
	return c
}

// roomy is the same config, with more behind its lists.
func roomy(c api.Config) api.Config {
	c.Windows = append(slices.Clone(c.Windows), api.Window{Owner: 1, Start: 2, Len: 3})[:len(c.Windows)]
	c.Channels = append(slices.Clone(c.Channels), queuing(0, 1))[:len(c.Channels)]
	c.Actions = append(slices.Clone(c.Actions), 1)[:len(c.Actions)]
	return c
}

// whole is the config with what is behind its lists.
func whole(c api.Config) api.Config {
	c.Windows = c.Windows[:len(c.Windows)+1]
	c.Channels = c.Channels[:len(c.Channels)+1]
	c.Actions = c.Actions[:len(c.Actions)+1]
	return c
}

func TestConfigsAreNeitherChangedNorKept(t *testing.T) {
	t.Parallel()
	r := rand.New(rand.NewPCG(9, 13))
	configs := slices.Collect(draws(9, 200))
	configs = append(configs, inRow(bad())...)
	var c api.Config
	for i, given := range configs {
		c = roomy(given)
		was := config.Clone(whole(c))
		other := configs[(i+1)%len(configs)]
		for range 200 {
			x := drawnCall(r, max(1, min(c.Frame, 64)))
			want := answer(inOtherMemory(given), x)
			if got := answer(c, x); got != want || !config.Same(whole(c), was) {
				t.Fatalf("%s: %+v, not %+v, and left %+v of %+v", x, got, want, whole(c), was)
			}
			// The same memory holds another config now, as far as it goes: that one is asked.
			d := overwritten(c, other)
			if got, want := answer(d, x), answer(inOtherMemory(d), x); got != want {
				t.Fatalf("%s: %+v, not %+v, of %+v, which was %+v", x, got, want, d, given)
			}
			overwritten(c, given)
		}
	}
}

// overwritten writes as much of the other config over what this one's lists hold as there is room for.
func overwritten(c, other api.Config) api.Config {
	c.Windows = c.Windows[:copy(c.Windows, other.Windows)]
	c.Channels = c.Channels[:copy(c.Channels, other.Channels)]
	c.Actions = c.Actions[:copy(c.Actions, other.Actions)]
	c.Partitions, c.Frame = other.Partitions, other.Frame
	return c
}
