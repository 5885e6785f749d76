package window_test

import (
	"math"
	"testing"

	"empennage/api"
	"empennage/window"
)

// P13.1 is asked by the tests of this file, P13.2 by those of drawn_test.go.

// whose fails unless that is the owner of the tick.
func whose(t *testing.T, c api.Config, now, want int, so bool) {
	t.Helper()
	if who, is := window.Whose(c, now); who != want || is != so {
		t.Errorf("Whose(%d) = %d, %v, not %d, %v, of %+v", now, who, is, want, so, c)
	}
}

// serves fails unless that is the place of the channel that is served.
func serves(t *testing.T, c api.Config, now, want int, so bool) {
	t.Helper()
	if place, is := window.Serves(c, now); place != want || is != so {
		t.Errorf("Serves(%d) = %d, %v, not %d, %v, of %+v", now, place, is, want, so, c)
	}
}

// number fails unless a call answered so.
func number(t *testing.T, what string, owner, n, got, want int) {
	t.Helper()
	if got != want {
		t.Errorf("%s(%d, %d) = %d, not %d", what, owner, n, got, want)
	}
}

func TestExample(t *testing.T) {
	c := example()
	whose(t, c, 18, api.Router, true)
	number(t, "Before", api.Router, 18, window.Before(c, api.Router, 18), 2)
}

func TestWhoseWrittenOut(t *testing.T) {
	const no = -9
	// The windows of the example: 0 to 2, and 8 and 9. At 2^62 the phase is 4.
	for _, x := range [][2]int{
		{0, 0}, {1, 0}, {2, 0}, {3, no}, {4, no}, {7, no}, {8, -1}, {9, -1}, {10, 0}, {12, 0}, {13, no}, {17, no}, {18, -1}, {19, -1}, {20, 0},
		{-1, 0}, {-2, 0}, {-10, 0}, {-top, 0}, {math.MinInt, 0}, {1000, 0}, {1003, no}, {1009, -1},
		{top, no}, {top - 1, no}, {top - 2, 0}, {top - 3, 0}, {top - 4, 0}, {top - 5, -1}, {top - 6, -1}, {top - 7, no},
		{top + 1, no}, {top + 4, no}, {top + 5, no}, {top + 6, no}, {math.MaxInt, no},
	} {
		if x[1] == no {
			whose(t, example(), x[0], 0, false)
			continue
		}
		whose(t, example(), x[0], x[1], true)
	}
}

func TestCountWrittenOut(t *testing.T) {
	for _, x := range []struct {
		c           api.Config
		owner, want int
	}{
		{example(), 0, 3}, {example(), api.Router, 2}, {example(), 1, 0}, {example(), 2, 0}, {example(), -2, 0},
		{example(), math.MinInt, 0}, {example(), math.MaxInt, 0}, {example(), 1<<32 - 1, 0}, {example(), 1 << 32, 0},
		{of(64, "", api.Window{Owner: 1, Len: 64}), 1, 64}, {of(64, "", api.Window{Owner: 1, Len: 64}), 0, 0},
		{of(64, "", api.Window{Owner: 1, Len: 1}), 1, 1}, {of(1, "", api.Window{Owner: -1, Len: 1}), -1, 1},
		{even(8, 8, 0, 4, ""), -1, 16}, {even(8, 8, 0, 4, ""), 1, 16}, {even(8, 8, 0, 4, ""), 2, 8}, {even(8, 8, 0, 4, ""), 3, 8},
	} {
		number(t, "Count", x.owner, 0, window.Count(x.c, x.owner), x.want)
	}
}

func TestBeforeWrittenOut(t *testing.T) {
	for _, x := range [][3]int{
		{0, 0, 0}, {0, 1, 1}, {0, 2, 2}, {0, 3, 3}, {0, 4, 3}, {0, 10, 3}, {0, 11, 4}, {0, 13, 6}, {0, 1000, 300}, {0, 1002, 302},
		{-1, 0, 0}, {-1, 8, 0}, {-1, 9, 1}, {-1, 10, 2}, {-1, 18, 2}, {-1, 19, 3}, {-1, 20, 4}, {-1, 1009, 201},
		{0, -1, 0}, {0, math.MinInt, 0}, {-1, -top, 0}, {1, 0, 0}, {1, 500, 0}, {1, top, 0}, {2, 500, 0}, {-2, 500, 0},
		{math.MinInt, 500, 0}, {math.MaxInt, math.MaxInt, 0}, {1<<32 - 1, 500, 0},
		{-1, top, 922337203685477580}, {-1, top - 4, 922337203685477580}, {-1, top - 5, 922337203685477579}, {-1, top - 6, 922337203685477578},
		{-1, top + 5, 922337203685477580}, {-1, math.MaxInt, 922337203685477580},
		{0, top, 1383505805528216373}, {0, top - 1, 1383505805528216373}, {0, top - 2, 1383505805528216372}, {0, top - 4, 1383505805528216370},
		{0, top + 1, 1383505805528216373}, {0, top + 9, 1383505805528216373}, {0, math.MaxInt, 1383505805528216373},
	} {
		number(t, "Before", x[0], x[1], window.Before(example(), x[0], x[1]), x[2])
	}
	whole := of(7, "", api.Window{Owner: 1, Len: 7})
	for _, x := range [][2]int{{0, 0}, {1, 1}, {1000, 1000}, {top - 1, top - 1}, {top, top}, {top + 1, top}, {math.MaxInt, top}, {-1, 0}} {
		number(t, "Before", 1, x[0], window.Before(whole, 1, x[0]), x[1])
	}
}

func TestUntilWrittenOut(t *testing.T) {
	for _, x := range [][3]int{
		{0, 0, 0}, {0, 1, 1}, {0, 2, 2}, {0, 3, 10}, {0, 4, 10}, {0, 9, 10}, {0, 10, 10}, {0, 13, 20}, {0, 1003, 1010},
		{-1, 0, 8}, {-1, 7, 8}, {-1, 8, 8}, {-1, 9, 9}, {-1, 10, 18}, {-1, 19, 19}, {-1, 20, 28},
		{0, -1, 0}, {-1, -1, 8}, {-1, -9, 8}, {0, math.MinInt, 0}, {-1, math.MinInt, 8}, {-1, -top, 8},
		{1, 0, -1}, {1, -1, -1}, {1, top, -1}, {2, 0, -1}, {-2, 0, -1}, {math.MinInt, 5, -1}, {math.MaxInt, math.MaxInt, -1}, {1 << 32, 0, -1},
		{-1, top - 8, top - 6}, {-1, top - 6, top - 6}, {-1, top - 5, top - 5}, {-1, top - 4, top}, {-1, top - 1, top}, {-1, top, top},
		{0, top - 6, top - 4}, {0, top - 3, top - 3}, {0, top - 2, top - 2}, {0, top - 1, top}, {0, top, top},
		{-1, top + 4, top}, {0, top + 6, top}, {-1, math.MaxInt, top}, {0, math.MaxInt, top},
	} {
		number(t, "Until", x[0], x[1], window.Until(example(), x[0], x[1]), x[2])
	}
}

func TestNthWrittenOut(t *testing.T) {
	for _, x := range [][3]int{
		{0, 0, 0}, {0, 1, 1}, {0, 2, 2}, {0, 3, 10}, {0, 5, 12}, {0, 6, 20}, {0, 300, 1000}, {0, 301, 1001},
		{-1, 0, 8}, {-1, 1, 9}, {-1, 2, 18}, {-1, 3, 19}, {-1, 200, 1008}, {-1, 201, 1009},
		{0, -1, 0}, {-1, -1, 8}, {-1, -2, 8}, {0, math.MinInt, 0}, {-1, math.MinInt, 8}, {-1, -top, 8},
		{1, 0, -1}, {1, 5, -1}, {1, top, -1}, {2, 0, -1}, {-2, 0, -1}, {math.MinInt, 5, -1}, {math.MaxInt, math.MaxInt, -1}, {1 << 32, 0, -1},
		{-1, 922337203685477578, top - 6}, {-1, 922337203685477579, top - 5}, {-1, 922337203685477580, top}, {-1, 922337203685477581, top},
		{0, 1383505805528216369, top - 12}, {0, 1383505805528216370, top - 4}, {0, 1383505805528216372, top - 2}, {0, 1383505805528216373, top},
		{-1, 1 << 61, top}, {0, 1 << 61, top}, {-1, 1844674407370955161, top}, {-1, 1844674407370955162, top}, {-1, 3689348814741910324, top},
		{0, 3000000000000000000, top}, {0, top, top}, {-1, top, top}, {0, top + 1, top}, {-1, math.MaxInt, top}, {0, math.MaxInt, top},
	} {
		number(t, "Nth", x[0], x[1], window.Nth(example(), x[0], x[1]), x[2])
	}
	whole := of(7, "", api.Window{Owner: 1, Len: 7})
	for _, x := range [][2]int{{-1, 0}, {0, 0}, {1, 1}, {1000, 1000}, {top - 1, top - 1}, {top, top}, {top + 1, top}, {math.MaxInt, top}} {
		number(t, "Nth", 1, x[0], window.Nth(whole, 1, x[0]), x[1])
	}
	number(t, "Nth", 0, 5, window.Nth(whole, 0, 5), -1)
}

func TestServesWrittenOut(t *testing.T) {
	// The queuing channels of the example are at 1 and 2.
	for _, x := range [][2]int{
		{8, 1}, {9, 2}, {18, 1}, {19, 2}, {1008, 1}, {1009, 2}, {top - 6, 1}, {top - 5, 2},
	} {
		serves(t, example(), x[0], x[1], true)
	}
	for _, now := range []int{0, 2, 3, 7, 10, 12, -1, -2, math.MinInt, top, top - 1, top + 4, top + 5, math.MaxInt} {
		serves(t, example(), now, 0, false)
	}
	// Three channels, and two ticks a frame: whom it serves first goes round.
	c := example()
	c.Channels = channels("qsqsq")
	for _, x := range [][2]int{{8, 0}, {9, 2}, {18, 4}, {19, 0}, {28, 2}, {29, 4}, {38, 0}} {
		serves(t, c, x[0], x[1], true)
	}
	// Of the router's ticks 2^62 is one: what is above is taken as that one. It leaves 1 of 3.
	c = of(1, "sqqq", api.Window{Owner: api.Router, Len: 1})
	for _, x := range [][2]int{{0, 1}, {1, 2}, {2, 3}, {3, 1}, {-1, 1}, {math.MinInt, 1}, {top - 2, 3}, {top - 1, 1}, {top, 2}, {top + 1, 2}, {math.MaxInt, 2}} {
		serves(t, c, x[0], x[1], true)
	}
}

func TestServesWithoutQueuingChannels(t *testing.T) {
	for _, kinds := range []string{"", "s", "ss", "ssssss"} {
		c := of(1, kinds, api.Window{Owner: api.Router, Len: 1})
		for _, now := range times(1) {
			whose(t, c, now, api.Router, true)
			serves(t, c, now, 0, false)
		}
	}
}

// It isn't served at a partition's tick, and at no one's.
func TestServesAtTheTicksOfOthers(t *testing.T) {
	for name, c := range good() {
		for _, now := range times(c.Frame) {
			who, is := window.Whose(c, now)
			if is && who == api.Router {
				continue
			}
			serves(t, c, now, 0, false)
		}
		if t.Failed() {
			t.Fatal(name)
		}
	}
}

// turns goes through the ticks from 0 on one by one, and fails unless each call answers what was counted so far.
func turns(t *testing.T, c api.Config, ticks int) {
	ahead, pending := map[int]int{}, map[int]int{}
	var places []int
	for place, k := range c.Channels {
		if k.Kind == api.Queuing {
			places = append(places, place)
		}
	}
	for now := range ticks {
		h := holds(c, now%c.Frame)
		whose(t, c, now, h.owner, h.is)
		for owner := api.Router; owner < api.MaxPartitions; owner++ {
			number(t, "Before", owner, now, window.Before(c, owner, now), ahead[owner])
		}
		if h.is && h.owner == api.Router && len(places) > 0 {
			serves(t, c, now, places[0], true)
			places = append(places[1:], places[0])
		} else {
			serves(t, c, now, 0, false)
		}
		if !h.is {
			continue
		}
		number(t, "Nth", h.owner, ahead[h.owner], window.Nth(c, h.owner, ahead[h.owner]), now)
		for tick := pending[h.owner]; tick <= now; tick++ {
			number(t, "Until", h.owner, tick, window.Until(c, h.owner, tick), now)
		}
		ahead[h.owner]++
		pending[h.owner] = now + 1
	}
}

func TestTicksFromTheFirstOn(t *testing.T) {
	for name, c := range good() {
		// The turns of six channels are over in six frames.
		turns(t, c, 13*c.Frame+3)
		if t.Failed() {
			t.Fatalf("%s: %+v", name, c)
		}
	}
}

// The router has each number of ticks a frame, of each number of channels: with a divisor in common, and without.
func TestEachNumberOfTicksServesEachNumberOfChannels(t *testing.T) {
	for frame := 1; frame <= 13; frame++ {
		for start := range frame {
			for length := 1; start+length <= frame; length++ {
				for _, kinds := range []string{"", "s", "q", "sq", "qq", "sqq", "qsq", "qqq", "sqqq", "qqqq", "qqqqq", "qsqqqq", "qqqqqq"} {
					c := of(frame, kinds, api.Window{Owner: api.Router, Start: start, Len: length})
					turns(t, c, 13*frame)
					if t.Failed() {
						t.Fatalf("%+v", c)
					}
				}
			}
		}
	}
}

func TestEachCallAtEachTick(t *testing.T) {
	for name, c := range good() {
		r := newRecord(c, true)
		for _, now := range times(c.Frame) {
			asTold(t, c, r, call{aWhose, 0, now})
			asTold(t, c, r, call{aServe, 0, now})
			for _, owner := range owners() {
				asTold(t, c, r, call{aCount, owner, 0})
				asTold(t, c, r, call{aBefore, owner, now})
				asTold(t, c, r, call{anUntil, owner, now})
				asTold(t, c, r, call{aNth, owner, now})
			}
		}
		for _, owner := range owners() {
			for _, n := range counts(c.Frame, r.Count(owner)) {
				asTold(t, c, r, call{aNth, owner, n})
			}
		}
		if t.Failed() {
			t.Fatal(name)
		}
	}
}

// The frames of all numbers of ticks: most of them don't go up in 2^62.
func TestEachFrameAtTheGreatestTicks(t *testing.T) {
	for frame := 1; frame <= 64; frame++ {
		for _, start := range []int{0, frame / 3, frame - 1} {
			for _, length := range []int{1, (frame - start + 1) / 2, frame - start} {
				c := of(frame, "qsqq", api.Window{Owner: api.Router, Start: start, Len: length})
				r := newRecord(c, true)
				last := r.Before(api.Router, top)
				for n := -frame - 2; n <= frame+2; n++ {
					for kind := range kinds {
						asTold(t, c, r, call{kind, api.Router, top + n})
						asTold(t, c, r, call{kind, 0, top + n})
					}
					asTold(t, c, r, call{aNth, api.Router, last + n})
				}
				for _, n := range counts(frame, length) {
					asTold(t, c, r, call{aNth, api.Router, n})
				}
				if t.Failed() {
					t.Fatalf("%+v", c)
				}
			}
		}
	}
}

func TestOfConfigsThatMayNotBe(t *testing.T) {
	for name, c := range bad() {
		r := newRecord(c, false)
		for _, n := range append(ends(), 3, 5, 8, 9, 10, 18, 63, 64, 1<<32) {
			for _, owner := range owners() {
				for kind := range kinds {
					asTold(t, c, r, call{kind, owner, n})
				}
			}
			whose(t, c, n, 0, false)
			serves(t, c, n, 0, false)
		}
		for _, owner := range []int{api.Router, 0, 1} {
			number(t, "Count", owner, 0, window.Count(c, owner), 0)
			number(t, "Before", owner, 50, window.Before(c, owner, 50), 0)
			number(t, "Until", owner, 0, window.Until(c, owner, 0), -1)
			number(t, "Nth", owner, 0, window.Nth(c, owner, 0), -1)
		}
		if t.Failed() {
			t.Fatal(name)
		}
	}
}
