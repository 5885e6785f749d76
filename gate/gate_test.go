package gate_test

import (
	"math"
	"slices"
	"testing"

	"empennage/api"
	"empennage/gate"
	"empennage/lane"
)

const top = api.MaxTick

// ends are numbers at the ends of what a tick, a round, or an int may be.
func ends() []int {
	return []int{
		math.MinInt, math.MinInt + 1, -top - 1, -top, -1 << 32, -2, -1, 0, 1, 2, 1 << 31, 1 << 32,
		top - 11, top - 10, top - 9, top - 2, top - 1, top, top + 1, top + 2, math.MaxInt - 1, math.MaxInt,
	}
}

// numbers are some of any, about the bounds of a channel's numbers.
func numbers() []int { return append(ends(), 3, 4, 5, 7, 8, 9, 63, 64, 65, 1000, 65535, 65536, 65537) }

// channel is one with room, and tokens.
func channel() api.Channel {
	return api.Channel{Kind: api.Queuing, From: 0, To: 1, Words: 2, Lanes: 3, Depth: 2, Hold: 1, Life: 10, Rate: 1, Cap: 9}
}

// look is a gate that is held against the record of what it is to be.
type look struct {
	t *testing.T
	g *gate.Gate
	r *record
}

func made(t *testing.T, k api.Channel) look { return look{t, gate.New(k), newRecord(k)} }

// makes makes the call, and fails unless it answers, and leaves, what it is to.
func (x look) makes(c call) told {
	x.t.Helper()
	a := asTold(x.t, x.g, x.r, c)
	alike(x.t, x.g, x.r, x.r.round)
	return a
}

// offers fails unless the message is let in, or refused so.
func (x look) offers(c call, want api.Errno) api.Message {
	x.t.Helper()
	a := x.makes(c)
	if m := a.list[0]; a.e != want || want != api.NoError && !lane.Same(a.list, make([]api.Message, 1)) {
		x.t.Errorf("%+v: %+v, %v, not %v", c, m, a.e, want)
	}
	return a.list[0]
}

// fills lets in messages of that lane, in that round, till it has so many.
func (x look) fills(in, many, round int) look {
	x.t.Helper()
	for n := range many {
		x.offers(call{lane: in, words: []int{10*in + n}, now: n, round: round}, api.NoError)
	}
	return x
}

// is fails unless it has these tokens, in that round, that number, and messages of these numbers.
func (x look) is(round, tokens, seq int, all ...int) {
	x.t.Helper()
	if n := x.g.Tokens(round); n != tokens {
		x.t.Errorf("Tokens(%d) = %d, not %d", round, n, tokens)
	}
	if x.g.Seq() != seq || x.g.Len() != len(all) {
		x.t.Errorf("Seq = %d, Len = %d, not %d, %d", x.g.Seq(), x.g.Len(), seq, len(all))
	}
	x.list("All", x.g.All(), all...)
}

// list fails unless the messages are those of these numbers.
func (x look) list(what string, list []api.Message, want ...int) {
	x.t.Helper()
	var got []int
	for _, m := range list {
		got = append(got, m.Seq)
	}
	if !slices.Equal(got, want) {
		x.t.Errorf("%s: %v, not %v", what, got, want)
	}
}

func TestExample(t *testing.T) {
	k := channel()
	k.Lanes, k.Depth = 1, 1
	x := made(t, k)
	m := x.offers(call{words: []int{7}, now: 3}, api.NoError)
	if want := (api.Message{Words: []int{7}, Lane: 0, Stamp: 3, Late: 13, Seq: 1}); !lane.Same([]api.Message{m}, []api.Message{want}) {
		t.Errorf("%+v, not %+v", m, want)
	}
	x.offers(call{words: []int{8}, now: 4}, api.NotAvailable)
	x.is(0, 8, 1, 1)
}

func TestNewHasNoneYet(t *testing.T) {
	for _, k := range small(3, 2) {
		x := made(t, k)
		x.is(0, k.Cap, 0)
		for _, c := range []call{{kind: aTake}, {kind: aSweep, now: top}, {kind: aFlush}} {
			x.makes(c)
			x.is(0, k.Cap, 0)
		}
	}
}

func TestOfferTellsTheMessage(t *testing.T) {
	for _, x := range []struct{ now, life, stamp, late int }{
		{5, 10, 5, 15}, {0, 1, 0, 1}, {0, 65536, 0, 65536}, {7, 65536, 7, 65543},
		{-1, 10, 0, 10}, {-top, 10, 0, 10}, {math.MinInt, 10, 0, 10}, {math.MinInt, 1, 0, 1},
		{top - 11, 10, top - 11, top - 1}, {top - 10, 10, top - 10, top}, {top - 9, 10, top - 9, top}, {top - 1, 1, top - 1, top},
		{top - 1, 65536, top - 1, top}, {top, 1, top, top}, {top, 65536, top, top}, {top + 1, 10, top, top}, {math.MaxInt, 10, top, top},
		{math.MaxInt, math.MaxInt, top, top}, {5, math.MaxInt, 5, top}, {top, top, top, top}, {1, top, 1, top}, {1, top - 2, 1, top - 1}, {0, top, 0, top},
		{5, 0, 5, 5}, {5, -1, 5, 5}, {5, math.MinInt, 5, 5}, {-5, math.MinInt, 0, 0}, {math.MaxInt, math.MinInt, top, top},
	} {
		for in := range 3 {
			for _, words := range [][]int{{0}, {9}, {1<<31 - 1}, {3, 2}, {0, 1<<31 - 1}} {
				k := channel()
				k.Life = x.life
				g := made(t, k).fills(1, 1, 0)
				m := g.offers(call{lane: in, words: words, now: x.now}, api.NoError)
				want := api.Message{Words: words, Lane: in, Stamp: x.stamp, Late: x.late, Seq: 2}
				if !lane.Same([]api.Message{m}, []api.Message{want}) {
					t.Errorf("at %d, with the Life %d: %+v, not %+v", x.now, x.life, m, want)
				}
			}
		}
	}
}

func TestOfferAtAnyTickOfAnyLife(t *testing.T) {
	for _, now := range ends() {
		for _, life := range numbers() {
			k := channel()
			k.Life = life
			x := made(t, k)
			x.offers(call{lane: 2, words: []int{1, 2}, now: now}, api.NoError)
			x.offers(call{lane: 1, words: []int{3}, now: now + 1}, api.NoError)
			for _, at := range []int{math.MinInt, now, sum(now, life) - 1, sum(now, life), math.MaxInt} {
				x.makes(call{kind: aSweep, now: at})
			}
		}
	}
}

func TestLaneWithoutRoom(t *testing.T) {
	for full := range 3 {
		x := made(t, channel()).fills(full, 2, 4)
		for _, round := range ends() {
			// The refused call doesn't even come to its round, in which there were more tokens.
			x.offers(call{lane: full, words: []int{5}, round: round}, api.NotAvailable)
			x.is(4, 7, 2, 1, 2)
		}
		for other := range 3 {
			if other != full {
				x.offers(call{lane: other, words: []int{6}, round: 4}, api.NoError)
			}
		}
		x.offers(call{lane: full, words: []int{7}, round: 4}, api.NotAvailable)
		if n := x.g.Tokens(4); n != 5 || x.g.Seq() != 4 {
			t.Errorf("%d tokens, Seq = %d", n, x.g.Seq())
		}
	}
}

func TestRoomOfEachDepth(t *testing.T) {
	for lanes := 1; lanes <= 3; lanes++ {
		for depth := 1; depth <= 8; depth++ {
			k := channel()
			k.Lanes, k.Depth, k.Cap = lanes, depth, 64
			x := made(t, k)
			for in := lanes - 1; in >= 0; in-- {
				x.fills(in, depth, 0)
				x.offers(call{lane: in, words: []int{1}}, api.NotAvailable)
			}
			if n := x.g.Tokens(0); n != 64-lanes*depth || x.g.Len() != lanes*depth {
				t.Errorf("%d lanes of %d: %d tokens, %d messages", lanes, depth, n, x.g.Len())
			}
		}
	}
}

func TestPlaceThatIsLeftHasRoomAgain(t *testing.T) {
	for _, c := range []call{{kind: aTake}, {kind: aSweep, now: 10}, {kind: aFlush}} {
		x := made(t, channel()).fills(1, 2, 0)
		x.offers(call{lane: 1, words: []int{1}}, api.NotAvailable)
		x.makes(c)
		x.offers(call{lane: 1, words: []int{2}}, api.NoError)
		if x.g.Seq() != 3 || x.g.Tokens(0) != 6 {
			t.Errorf("%+v: Seq = %d, %d tokens", c, x.g.Seq(), x.g.Tokens(0))
		}
	}
}

func TestWithoutAToken(t *testing.T) {
	for _, rate := range []int{0, 1, 2, 64} {
		for _, most := range []int{1, 2, 5} {
			k := channel()
			k.Rate, k.Cap, k.Depth = rate, most, 8
			x := made(t, k).fills(2, most, 6)
			for _, round := range []int{6, 5, 0, -1, math.MinInt} {
				for in := range 3 {
					x.offers(call{lane: in, words: []int{1}, round: round}, api.NotAvailable)
				}
				x.is(6, 0, most, []int{1, 2, 3, 4, 5}[:most]...)
			}
			if rate == 0 {
				x.offers(call{words: []int{1}, round: math.MaxInt}, api.NotAvailable)
				continue
			}
			x.offers(call{words: []int{1}, round: 7}, api.NoError)
			if n := x.g.Tokens(0); n != min(rate, most)-1 {
				t.Errorf("rate %d, cap %d: %d tokens", rate, most, n)
			}
		}
	}
}

func TestNeitherRoomNorToken(t *testing.T) {
	k := channel()
	k.Cap = 2
	x := made(t, k).fills(0, 2, 3)
	for _, round := range []int{3, 2, -1, 4, math.MaxInt} {
		x.offers(call{words: []int{1}, round: round}, api.NotAvailable)
		x.is(3, 0, 2, 1, 2)
	}
	x.offers(call{lane: 1, words: []int{1}, round: 3}, api.NotAvailable)
	x.is(3, 0, 2, 1, 2)
	x.offers(call{lane: 1, words: []int{1}, round: 4}, api.NoError)
	x.is(4, 0, 3, 1, 2, 3)
}

func TestOfferInRoundsBelowAtAndAboveTheBucketsOwn(t *testing.T) {
	for _, x := range []struct{ have, own, round, left int }{
		{2, 5, 5, 1}, {2, 5, 4, 1}, {2, 5, 0, 1}, {2, 5, -7, 1}, {2, 5, math.MinInt, 1}, {1, 5, 5, 0}, {1, 5, 4, 0}, {6, 5, 5, 5},
		{2, 5, 6, 3}, {2, 5, 7, 5}, {2, 5, 8, 5}, {2, 5, 1 << 40, 5}, {2, 5, math.MaxInt, 5}, {6, 5, 6, 5}, {5, 5, 6, 5}, {4, 5, 6, 5}, {3, 5, 6, 4},
		{0, 5, 6, 1}, {0, 5, 7, 3}, {0, 5, 8, 5}, {0, 5, 9, 5}, {0, top - 1, top, 1}, {0, top - 1, top + 1, 1}, {0, top - 2, math.MaxInt, 3},
		{1, top, top, 0}, {1, top, math.MaxInt, 0}, {1, top, 0, 0}, {1, 0, 0, 0}, {1, 0, -1, 0}, {1, 0, 1, 2}, {0, 0, 1, 1},
	} {
		k := channel()
		k.Rate, k.Cap, k.Depth = 2, 6, 8
		g := made(t, k)
		g.makes(call{kind: aTokens, round: x.own})
		g.fills(0, 6-x.have, x.own)
		g.offers(call{lane: 1, words: []int{1}, round: x.round}, api.NoError)
		own := max(x.own, cut(x.round))
		for _, round := range []int{own, own - 1, 0, math.MinInt} {
			if n := g.g.Tokens(round); n != x.left {
				t.Errorf("%+v: Tokens(%d) = %d", x, round, n)
			}
		}
	}
}

func TestTokensComesToItsRound(t *testing.T) {
	k := channel()
	k.Rate, k.Cap = 2, 5
	x := made(t, k).fills(0, 2, 0).fills(1, 2, 0)
	for _, ask := range []struct{ round, tokens int }{{0, 1}, {-4, 1}, {1, 3}, {0, 3}, {1, 3}, {2, 5}, {3, 5}, {1, 5}, {math.MaxInt, 5}, {0, 5}} {
		if n := x.makes(call{kind: aTokens, round: ask.round}).n; n != ask.tokens {
			t.Errorf("Tokens(%d) = %d, not %d", ask.round, n, ask.tokens)
		}
	}
	x.is(0, 5, 4, 1, 2, 3, 4)
}

func TestTakeSweepAndFlushOfWhatWasLetIn(t *testing.T) {
	offers := func(x look) {
		for n, in := range []int{2, 0, 1, 0, 2, 1} {
			x.offers(call{lane: in, words: []int{n}, now: 10 * (5 - n)}, api.NoError)
		}
		// The row of all: lane 0's 2, 4; lane 1's 3, 6; lane 2's 1, 5. They are late at 50, 30, 40, 10, 60, 20.
		x.is(0, 3, 6, 2, 4, 3, 6, 1, 5)
	}
	x := made(t, channel())
	offers(x)
	for i, want := range []int{2, 4, 3, 6, 1, 5} {
		a := x.makes(call{kind: aTake})
		x.list("Take", a.list, want)
		if !a.is || x.g.Len() != 5-i {
			t.Errorf("Take: %v, %d are left", a.is, x.g.Len())
		}
	}
	if x.makes(call{kind: aTake}).is {
		t.Error("Take of none")
	}
	x.is(0, 3, 6)
	x = made(t, channel())
	offers(x)
	x.list("Sweep", x.makes(call{kind: aSweep, now: -1}).list)
	x.list("Sweep", x.makes(call{kind: aSweep, now: 9}).list)
	x.list("Sweep", x.makes(call{kind: aSweep, now: 10}).list, 6)
	x.list("Sweep", x.makes(call{kind: aSweep, now: 30}).list, 4, 5)
	x.is(0, 3, 6, 2, 3, 1)
	x.list("Take", x.makes(call{kind: aTake}).list, 2)
	x.list("Sweep", x.makes(call{kind: aSweep, now: math.MaxInt}).list, 3, 1)
	x.list("Flush", x.makes(call{kind: aFlush}).list)
	x = made(t, channel())
	offers(x)
	x.list("Flush", x.makes(call{kind: aFlush}).list, 2, 4, 3, 6, 1, 5)
	x.is(0, 3, 6)
}

func TestSeqGoesOn(t *testing.T) {
	k := channel()
	k.Cap = 64
	x := made(t, k)
	for n := 1; n <= 40; n++ {
		m := x.offers(call{lane: n % 3, words: []int{n}, now: n}, api.NoError)
		if m.Seq != n || x.g.Seq() != n {
			t.Errorf("the message %d has the number %d; Seq = %d", n, m.Seq, x.g.Seq())
		}
		x.offers(call{lane: 3, words: []int{n}}, api.InvalidParam)
		x.makes([]call{{kind: aTake}, {kind: aSweep, now: n + 10}, {kind: aFlush}, {kind: aTokens, round: 0}, {kind: aFlush}}[n%5])
		if x.g.Seq() != n {
			t.Errorf("Seq = %d, not %d", x.g.Seq(), n)
		}
	}
}

func TestNewOfAnyNumber(t *testing.T) {
	// Judge takes Lanes and Words as they are; the lanes and the bucket have the nearer numbers.
	for field := range 6 {
		for _, n := range numbers() {
			k := channel()
			*[]*int{&k.Lanes, &k.Depth, &k.Rate, &k.Cap, &k.Words, &k.Life}[field] = n
			x := made(t, k)
			x.is(0, near(k.Cap, 1, 64), 0)
			for _, in := range []int{-1, 0, 1, 2, 3, 4, n - 1, n} {
				for _, words := range []int{1, 2, 3, 1000} {
					for range 3 {
						x.makes(call{lane: in, words: make([]int, words)})
					}
				}
			}
			x.makes(call{kind: aTokens, round: 2})
			for in := range 3 {
				for range 9 {
					x.makes(call{lane: in, words: []int{1}, round: 5})
				}
			}
			if t.Failed() {
				t.Fatalf("%+v", k)
			}
		}
	}
}

func TestLanesBeyondThoseOfLayer10(t *testing.T) {
	// There is such a lane of the channel, but none of the gate's lanes has a place for it.
	for _, lanes := range []int{4, 100, math.MaxInt} {
		k := channel()
		k.Lanes = lanes
		x := made(t, k)
		for _, in := range []int{3, lanes - 1} {
			x.offers(call{lane: in, words: []int{1}, round: 1}, api.NotAvailable)
		}
		for _, in := range []int{-1, lanes, math.MinInt} {
			x.offers(call{lane: in, words: []int{1}, round: 1}, api.InvalidParam)
		}
		x.is(0, 9, 0)
		x.fills(2, 2, 0)
		x.is(0, 7, 2, 1, 2)
	}
	for _, lanes := range []int{0, -1, math.MinInt} {
		k := channel()
		k.Lanes = lanes
		x := made(t, k)
		for _, in := range []int{-1, 0, 1, lanes - 1, lanes} {
			x.offers(call{lane: in, words: []int{1}, round: 1}, api.InvalidParam)
		}
		x.is(0, 9, 0)
	}
}

func TestMoreWordsThanThereMayBe(t *testing.T) {
	for _, most := range []int{5, 64, 1000} {
		k := channel()
		k.Words = most
		x := made(t, k)
		if m := x.offers(call{words: slices.Repeat([]int{3}, most)}, api.NoError); len(m.Words) != most {
			t.Errorf("%d words: %+v", most, m)
		}
		x.offers(call{words: make([]int, most+1)}, api.InvalidParam)
		x.is(0, 8, 1, 1)
	}
}

func TestGatesShareNothing(t *testing.T) {
	a, b := made(t, channel()), made(t, channel())
	a.fills(0, 2, 3)
	b.is(0, 9, 0)
	b.fills(1, 1, 0)
	a.is(3, 7, 2, 1, 2)
	b.makes(call{kind: aFlush})
	a.is(3, 7, 2, 1, 2)
	b.is(0, 8, 1)
	a.makes(call{kind: aTake})
	b.offers(call{words: []int{1}}, api.NoError)
	b.is(0, 7, 2, 2)
	a.is(3, 7, 2, 2)
}

func TestNil(t *testing.T) {
	x := look{t: t}
	for range 2 {
		for _, n := range numbers() {
			for _, words := range [][]int{nil, {}, {1}, {-1}} {
				for _, c := range []call{{words: words}, {lane: n, words: words}, {mode: n, words: words}, {words: words, now: n, round: n}} {
					if m, e := x.g.Offer(c.mode, c.lane, c.words, c.now, c.round); e != api.InvalidConfig || !lane.Same([]api.Message{m}, make([]api.Message, 1)) {
						t.Errorf("%+v: %+v, %v", c, m, e)
					}
				}
			}
			x.list("Sweep", x.g.Sweep(n))
			x.is(n, 0, 0)
		}
		if m, is := x.g.Take(); is || !lane.Same([]api.Message{m}, make([]api.Message, 1)) {
			t.Errorf("Take: %+v, %v", m, is)
		}
		x.list("Flush", x.g.Flush())
	}
}

func TestGateThatNewDidNotMake(t *testing.T) {
	// No chapter speaks of it: its calls have but to end, and not to panic (T0).
	g := new(gate.Gate)
	for _, n := range numbers() {
		for kind := range kinds {
			answer(g, call{kind: kind, lane: n, words: []int{1}, now: n, round: n})
			answer(g, call{kind: kind, words: []int{1}})
		}
	}
	g.All()
	g.Len()
	g.Seq()
}
