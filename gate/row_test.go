package gate_test

import (
	"math"
	"testing"

	"empennage/api"
	"empennage/bucket"
	"empennage/gate"
	"empennage/lane"
)

// P12.2 is asked by the tests of this file, by what gates tell alone.

// watch is two gates of one channel: to one all calls come, to the other one none that is refused.
type watch struct {
	t        *testing.T
	k        api.Channel
	g, other *gate.Gate
	own      int   // the greatest round that was come to
	lets     []int // the rounds in which messages were let in
}

func newWatch(t *testing.T, k api.Channel) *watch {
	return &watch{t: t, k: k, g: gate.New(k), other: gate.New(k)}
}

// call makes the call, and fails if what is refused has changed a thing, or what is let in has not the next number, and a token.
func (w *watch) call(c call) {
	switch c.kind {
	case anOffer:
		w.offer(c)
	case aTokens:
		asTold(w.t, w.g, w.other, c)
		w.own = max(w.own, c.round)
	default:
		asTold(w.t, w.g, w.other, c)
	}
	alike(w.t, w.g, w.other, w.own)
}

// offer offers the message to the one, and to the other one if it was let in.
func (w *watch) offer(c call) {
	seq := w.g.Seq()
	m, e := w.g.Offer(c.mode, c.lane, c.words, c.now, c.round)
	if e != api.NoError {
		if !lane.Same([]api.Message{m}, make([]api.Message, 1)) {
			w.t.Errorf("%+v: %v, and beside it %+v", c, e, m)
		}
		return
	}
	had := w.other.Tokens(c.round)
	n, f := w.other.Offer(c.mode, c.lane, c.words, c.now, c.round)
	if f != api.NoError || !lane.Same([]api.Message{m}, []api.Message{n}) {
		w.t.Errorf("%+v: %+v, and without the refused calls %+v, %v", c, m, n, f)
	}
	if m.Seq != seq+1 || w.g.Seq() != seq+1 {
		w.t.Errorf("%+v: the number %d, Seq = %d, behind %d", c, m.Seq, w.g.Seq(), seq)
	}
	w.own = max(w.own, c.round)
	if left := w.g.Tokens(w.own); left != had-1 {
		w.t.Errorf("%+v: %d tokens, of %d", c, left, had)
	}
	w.lets = append(w.lets, min(w.own, top))
}

// most fails if more were let in, from any round up to any, than a bucket gives that was full at first.
func (w *watch) most() {
	for i, from := range w.lets {
		for j, to := range w.lets[i:] {
			if n := bucket.Most(w.k.Rate, w.k.Cap, to-from); j+1 > n {
				w.t.Errorf("%d are let in from the round %d to %d: the bucket gives %d", j+1, from, to, n)
			}
		}
	}
	for i, to := range w.lets {
		if n := bucket.Most(w.k.Rate, w.k.Cap, to); i+1 > n {
			w.t.Errorf("%d are let in up to the round %d: the bucket gives %d", i+1, to, n)
		}
	}
}

func TestRefusedCallsOfEachRowChangeNothing(t *testing.T) {
	t.Parallel()
	for k, row := range few() {
		w := newWatch(t, k)
		for _, c := range row {
			w.call(c)
		}
		w.most()
		if t.Failed() {
			t.Fatalf("%+v: the row %+v", k, row)
		}
	}
}

func TestRefusedCallsOfDrawnRowsChangeNothing(t *testing.T) {
	t.Parallel()
	for k, row := range drawnRows(67) {
		w := newWatch(t, k)
		for i, c := range row {
			w.call(c)
			if t.Failed() {
				t.Fatalf("%+v: the row %+v", k, row[:i+1])
			}
		}
		w.most()
		if t.Failed() {
			t.Fatalf("%+v: behind the row %+v", k, row)
		}
	}
}

// refusals are offers that are refused now, at that tick: most of them in that round.
func (w *watch) refusals(now, round int) []call {
	l := []call{
		{mode: api.Warm, words: []int{1}}, {mode: api.Stopped, lane: 9}, {mode: -1, words: []int{1}},
		{lane: -1, words: []int{1}}, {lane: w.k.Lanes, words: []int{1}}, {lane: math.MaxInt, words: []int{1}},
		{}, {words: make([]int, w.k.Words+1)}, {words: []int{-1}}, {words: []int{1 << 31}},
	}
	var counts [3]int
	for _, m := range w.g.All() {
		counts[m.Lane]++
	}
	for in := range w.k.Lanes {
		if counts[in] == w.k.Depth {
			l = append(l, call{lane: in, words: []int{1}})
		}
	}
	for i := range l {
		l[i].now, l[i].round = now, round
	}
	if w.g.Tokens(w.own) == 0 {
		l = append(l, call{words: []int{1}, now: now, round: w.own}, call{words: []int{1}, now: now, round: -1})
	}
	return l
}

func TestRefusalsBetweenChangeNothing(t *testing.T) {
	t.Parallel()
	for k, row := range drawnRows(69) {
		w := newWatch(t, k)
		for i, c := range row {
			for _, r := range w.refusals(c.now, c.round+i) {
				if a := answer(w.g, r); a.e == api.NoError || !lane.Same(a.list, make([]api.Message, 1)) {
					t.Errorf("%+v: %+v", r, a)
				}
			}
			w.call(c)
			if t.Failed() {
				t.Fatalf("%+v: the row %+v", k, row[:i+1])
			}
		}
	}
}

func TestAllThatTheBucketGivesAreLetIn(t *testing.T) {
	for _, k := range small(3, 2) {
		for _, first := range []int{0, 5, top - 8} {
			g := gate.New(k)
			g.Tokens(first)
			for later, in := 0, 0; later <= 8; later++ {
				// What is let in is taken out again: there is always room.
				for e := api.NoError; e == api.NoError; {
					if _, e = g.Offer(api.Normal, in%k.Lanes, []int{in}, later, first+later); e == api.NoError {
						in++
					}
					g.Take()
				}
				if want := k.Cap + min(k.Rate, k.Cap)*later; in != want || g.Seq() != want {
					t.Errorf("%+v: %d rounds behind %d: %d are let in, not %d; Seq = %d", k, later, first, in, want, g.Seq())
				}
			}
		}
	}
}
