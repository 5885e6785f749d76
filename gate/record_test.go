package gate_test

import (
	"iter"
	"math/rand/v2"
	"slices"
	"testing"

	"empennage/api"
	"empennage/gate"
	"empennage/lane"
)

// record is what a gate is to be: a list for each lane, and tokens that come from round to round.
type record struct {
	k                  api.Channel
	lists              [][]api.Message
	tokens, round, seq int
}

func newRecord(k api.Channel) *record {
	return &record{k: k, lists: make([][]api.Message, near(k.Lanes, 1, 3)), tokens: near(k.Cap, 1, 64)}
}

// near is n, or the nearer end.
func near(n, least, most int) int { return min(max(n, least), most) }

// cut is the number of a tick that is nearest to n.
func cut(n int) int { return near(n, 0, top) }

// sum is that of both, cut.
func sum(a, b int) int { return int(min(uint64(cut(a))+uint64(cut(b)), top)) }

// judged is what Judge is to tell.
func judged(k api.Channel, mode, lane int, words []int) api.Errno {
	bad := lane < 0 || lane > k.Lanes-1 && k.Lanes > 0 || k.Lanes < 1
	bad = bad || len(words) < 1 || len(words) > k.Words
	bad = bad || slices.Min(words) < 0 || slices.Max(words) > 1<<31-1
	for _, rule := range []struct {
		so bool
		e  api.Errno
	}{{mode != 0, 5}, {k.Kind != 1, 4}, {bad, 3}} {
		if rule.so {
			return rule.e
		}
	}
	return 0
}

// in is how many tokens there are in that round; the record doesn't come to it.
func (r *record) in(round int) int {
	tokens, most, rate := r.tokens, near(r.k.Cap, 1, 64), near(r.k.Rate, 0, 64)
	for at := r.round; at < cut(round) && tokens < most && rate > 0; at++ {
		tokens = min(tokens+rate, most)
	}
	return tokens
}

// room is how many more messages that lane may have.
func (r *record) room(lane int) int {
	if lane >= len(r.lists) {
		return 0
	}
	return near(r.k.Depth, 1, 8) - len(r.lists[lane])
}

func (r *record) Offer(mode, in int, words []int, now, round int) (api.Message, api.Errno) {
	if e := judged(r.k, mode, in, words); e != 0 {
		return api.Message{}, e
	}
	if r.room(in) == 0 || r.in(round) == 0 {
		return api.Message{}, api.NotAvailable
	}
	r.tokens = r.Tokens(round) - 1
	r.seq++
	m := api.Message{Words: slices.Clone(words), Lane: in, Stamp: cut(now), Late: sum(now, r.k.Life), Seq: r.seq}
	r.lists[in] = append(r.lists[in], m)
	return m, api.NoError
}

func (r *record) Take() (api.Message, bool) {
	all := r.All()
	if len(all) == 0 {
		return api.Message{}, false
	}
	first := all[0]
	r.lists[first.Lane] = r.lists[first.Lane][1:]
	return first, true
}

func (r *record) Sweep(now int) []api.Message {
	var gone []api.Message
	for i, list := range r.lists {
		var stay []api.Message
		for _, m := range list {
			if cut(now) < m.Late {
				stay = append(stay, m)
			} else {
				gone = append(gone, m)
			}
		}
		r.lists[i] = stay
	}
	return gone
}

func (r *record) Flush() []api.Message {
	all := r.All()
	clear(r.lists)
	return all
}

func (r *record) All() []api.Message { return slices.Concat(r.lists...) }

func (r *record) Len() int { return len(r.All()) }

func (r *record) Tokens(round int) int {
	r.tokens = r.in(round)
	r.round = max(r.round, cut(round))
	return r.tokens
}

func (r *record) Seq() int { return r.seq }

// The kinds of calls that turn a gate.
const (
	anOffer = iota
	aTake
	aSweep
	aFlush
	aTokens
	kinds
)

// call is one that turns a gate; each kind takes what it needs.
type call struct {
	kind, mode, lane int
	words            []int
	now, round       int
}

// turned is a gate, or a record of one.
type turned interface {
	Offer(mode, lane int, words []int, now, round int) (api.Message, api.Errno)
	Take() (api.Message, bool)
	Sweep(now int) []api.Message
	Flush() []api.Message
	All() []api.Message
	Len() int
	Tokens(round int) int
	Seq() int
}

// told is what a call answers.
type told struct {
	list []api.Message
	is   bool
	e    api.Errno
	n    int
}

// answer makes the call, and tells what it answers: a message, one of zeros too, is a list of one.
func answer(g turned, c call) told {
	switch c.kind {
	case anOffer:
		m, e := g.Offer(c.mode, c.lane, c.words, c.now, c.round)
		return told{list: []api.Message{m}, e: e}
	case aTake:
		m, is := g.Take()
		return told{list: []api.Message{m}, is: is}
	case aSweep:
		return told{list: g.Sweep(c.now)}
	case aFlush:
		return told{list: g.Flush()}
	}
	return told{n: g.Tokens(c.round)}
}

// asTold makes the call of both, and fails unless they answer it alike. It is no helper of the tests: to say so takes longer than the call.
func asTold(t *testing.T, g, r turned, c call) told {
	got, want := answer(g, c), answer(r, c)
	if !lane.Same(got.list, want.list) || got.is != want.is || got.e != want.e || got.n != want.n {
		t.Errorf("%+v: %+v, not %+v", c, got, want)
	}
	return got
}

// alike fails unless all that may be asked of both is the same; it comes to no round above that one.
func alike(t *testing.T, g, r turned, round int) {
	if got, want := g.All(), r.All(); !lane.Same(got, want) {
		t.Errorf("All: %+v, not %+v", got, want)
	}
	if g.Len() != r.Len() || g.Seq() != r.Seq() {
		t.Errorf("Len = %d, Seq = %d, not %d, %d", g.Len(), g.Seq(), r.Len(), r.Seq())
	}
	for _, at := range []int{round, round - 1, -1} {
		if n, want := g.Tokens(at), r.Tokens(at); n != want {
			t.Errorf("Tokens(%d) = %d, not %d, in the round %d", at, n, want, round)
		}
	}
}

// numbered is the calls with messages that are told apart by which call offers them.
func numbered(row []call) []call {
	l := slices.Clone(row)
	for i := range l {
		if l[i].kind == anOffer {
			l[i].words = []int{i}
		}
	}
	return l
}

// rows are all rows of so many of these calls.
func rows(l []call, length int) iter.Seq[[]call] {
	return func(yield func([]call) bool) {
		row, places := make([]call, length), make([]int, length)
		for {
			for i, n := range places {
				row[i] = l[n]
			}
			if !yield(numbered(row)) {
				return
			}
			i := 0
			for i < length && places[i] == len(l)-1 {
				places[i] = 0
				i++
			}
			if i == length {
				return
			}
			places[i]++
		}
	}
}

// small are channels of small numbers, of so many lanes and places at most.
func small(lanes, places int) []api.Channel {
	var l []api.Channel
	for n := range lanes * places * 3 * 3 {
		k := channel()
		k.Lanes, k.Depth = 1+n%lanes, 1+n/lanes%places
		k.Rate, k.Cap, k.Life = n/lanes/places%3, 1+n/lanes/places/3, 1
		l = append(l, k)
	}
	return l
}

// calls are all that turn a gate of so many lanes, at the rounds and ticks 0 and 1; one is of a lane that there is none of.
func calls(lanes int) []call {
	l := []call{{kind: aTake}, {kind: aFlush}, {kind: aSweep, now: 1}, {kind: aTokens, round: 1}, {lane: lanes, round: 1}}
	for i := range lanes {
		l = append(l, call{lane: i}, call{lane: i, now: 1, round: 1})
	}
	return l
}

// few are all rows of gates of small channels, up to some length.
func few() iter.Seq2[api.Channel, []call] {
	return func(yield func(api.Channel, []call) bool) {
		for _, x := range []struct{ lanes, places, length int }{{1, 2, 5}, {2, 1, 5}, {2, 2, 4}} {
			for _, k := range small(x.lanes, x.places) {
				for length := range x.length + 1 {
					for row := range rows(calls(k.Lanes), length) {
						if !yield(k, row) {
							return
						}
					}
				}
			}
		}
	}
}

// drawnOffer is one that is mostly judged so that it may go on.
func drawnOffer(random *rand.Rand, k api.Channel) call {
	c := call{lane: random.IntN(k.Lanes)}
	for range 1 + random.IntN(k.Words) {
		c.words = append(c.words, random.IntN(1<<31))
	}
	switch random.IntN(12) {
	case 0:
		c.mode = random.IntN(4) - 1
	case 1:
		c.lane = random.IntN(5) - 1
	case 2:
		c.words = make([]int, random.IntN(6))
	case 3:
		c.words[random.IntN(len(c.words))] = []int{-1, 0, 1<<31 - 1, 1 << 31}[random.IntN(4)]
	}
	return c
}

// drawn is so many calls of which the ticks and the rounds rise, mostly: from 0 on, or up to 2^62.
func drawn(random *rand.Rand, k api.Channel, length int) []call {
	first := []int{0, 0, random.IntN(top), top - random.IntN(length)}
	now, round := first[random.IntN(4)], first[random.IntN(4)]
	offers, steps := 3+random.IntN(7), 1+random.IntN(4)
	l := make([]call, length)
	for i := range l {
		c := call{kind: 1 + random.IntN(kinds-1)}
		if random.IntN(10) < offers {
			c = drawnOffer(random, k)
		}
		if random.IntN(3) == 0 {
			now, round = now+random.IntN(8), round+random.IntN(steps)
		}
		c.now, c.round = now, round
		switch random.IntN(8) {
		case 0:
			c.round -= random.IntN(4)
		case 1:
			c.now += random.IntN(9) - 4
		case 2:
			// Where it is refused, the gate is not to come to that round, which is far above.
			if random.IntN(8) == 0 {
				c.now, c.round = ends()[random.IntN(len(ends()))], round+random.IntN(30)
			}
		}
		l[i] = c
	}
	return l
}

// drawnRows are rows of channels of all small numbers.
func drawnRows(seed uint64) iter.Seq2[api.Channel, []call] {
	random := rand.New(rand.NewPCG(seed, seed))
	return func(yield func(api.Channel, []call) bool) {
		for n := range 3 * 8 * 5 * 6 * 4 {
			k := api.Channel{Kind: api.Queuing, To: 1, Lanes: 1 + n%3, Depth: 1 + n/3%8, Rate: n / 24 % 5, Cap: 1 + n/120%6, Words: 1 + n/720}
			k.Hold, k.Life = 1, 1+random.IntN(20)
			if !yield(k, drawn(random, k, 100)) {
				return
			}
		}
	}
}

func TestEachRowAnswersAsTheRecord(t *testing.T) {
	t.Parallel()
	for k, row := range few() {
		g, r := gate.New(k), newRecord(k)
		for _, c := range row {
			asTold(t, g, r, c)
		}
		// Only behind the last call: a shorter row asked behind the others.
		alike(t, g, r, r.round)
		if t.Failed() {
			t.Fatalf("%+v: the row %+v", k, row)
		}
	}
}

func TestDrawnRowsAnswerAsTheRecord(t *testing.T) {
	t.Parallel()
	for k, row := range drawnRows(61) {
		g, r := gate.New(k), newRecord(k)
		for i, c := range row {
			asTold(t, g, r, c)
			alike(t, g, r, r.round)
			if t.Failed() {
				t.Fatalf("%+v: the row %+v", k, row[:i+1])
			}
		}
	}
}

func TestWhatIsAskedBetweenTurnsNothing(t *testing.T) {
	t.Parallel()
	for k, row := range drawnRows(63) {
		g, other, own := gate.New(k), gate.New(k), 0
		for i, c := range row {
			// The one is asked, at rounds that aren't above its own; the other one isn't.
			g.All()
			g.Len()
			g.Seq()
			g.Tokens(own - i)
			gate.Judge(k, c.mode, c.lane, c.words)
			if a := asTold(t, g, other, c); c.kind == aTokens || c.kind == anOffer && a.e == api.NoError {
				own = max(own, c.round)
			}
			if t.Failed() {
				t.Fatalf("%+v: the row %+v", k, row[:i+1])
			}
		}
	}
}
