package bucket_test

import (
	"iter"
	"math/rand/v2"
	"slices"
	"testing"

	"empennage/bucket"
)

// record is what a bucket is to be; it goes from round to round one by one.
type record struct{ rate, cap, tokens, round int }

// newRecord is of a rate and a cap within their bounds.
func newRecord(rate, cap int) *record { return &record{rate: rate, cap: cap, tokens: cap} }

func (r *record) come(round int) {
	to := cut(round)
	for r.round < to && r.tokens < r.cap && r.rate > 0 {
		r.tokens = min(r.tokens+r.rate, r.cap)
		r.round++
	}
	// The rounds that are left, if any, bring no token.
	r.round = max(r.round, to)
}

func (r *record) Tokens(round int) int {
	r.come(round)
	return r.tokens
}

func (r *record) Take(round int) bool {
	r.come(round)
	if r.tokens == 0 {
		return false
	}
	r.tokens--
	return true
}

func (r *record) Wait(round int) (int, bool) {
	r.come(round)
	for later := *r; ; later.come(later.round + 1) {
		if later.tokens > 0 {
			return later.round, true
		}
		if later.rate == 0 || later.round == top {
			return 0, false
		}
	}
}

func (r *record) Reset(round int) {
	r.come(round)
	r.tokens = r.cap
}

// The kinds of calls that turn a bucket.
const (
	aTokens = iota
	aTake
	aWait
	aReset
	kinds
)

// call is one that turns a bucket.
type call struct{ kind, round int }

// turned is a bucket, or a record of one.
type turned interface {
	Tokens(round int) int
	Take(round int) bool
	Wait(round int) (int, bool)
	Reset(round int)
}

// answer makes the call, and tells what it answers: 0, false in the place of what it doesn't.
func answer(b turned, c call) (int, bool) {
	switch c.kind {
	case aTokens:
		return b.Tokens(c.round), false
	case aTake:
		return 0, b.Take(c.round)
	case aWait:
		return b.Wait(c.round)
	}
	b.Reset(c.round)
	return 0, false
}

// asTold makes the call of both, and fails unless they answer it alike. It is no helper of the tests: to say so takes longer than the call.
func asTold(t *testing.T, b, r turned, c call) {
	n, is := answer(b, c)
	if want, so := answer(r, c); n != want || is != so {
		t.Errorf("%+v = %d, %v, not %d, %v", c, n, is, want, so)
	}
}

// rows are all rows of so many calls, at these rounds.
func rows(rounds []int, length int) iter.Seq[[]call] {
	return func(yield func([]call) bool) {
		row := make([]call, length)
		var put func(i int) bool
		put = func(i int) bool {
			if i == length {
				return yield(row)
			}
			for kind := range kinds {
				for _, round := range rounds {
					row[i] = call{kind, round}
					if !put(i + 1) {
						return false
					}
				}
			}
			return true
		}
		put(0)
	}
}

// size is a rate and a cap.
type size struct{ rate, cap int }

// few are all rows of buckets of small rates and caps, up to some length: the longer a row, the fewer rounds, rates and caps.
func few() iter.Seq2[size, []call] {
	return func(yield func(size, []call) bool) {
		for length, x := range []struct {
			rate, cap int
			rounds    []int
		}{
			{64, 64, nil}, {64, 64, ends()}, {4, 4, ends()}, {3, 4, []int{-1, 0, 1, 2, 3, top}}, {3, 4, []int{0, 1, 2, 3}}, {3, 3, []int{0, 1, 2}},
		} {
			for n := range (x.rate + 1) * x.cap {
				s := size{n / x.cap, 1 + n%x.cap}
				for row := range rows(x.rounds, length) {
					if !yield(s, row) {
						return
					}
				}
			}
		}
	}
}

// drawn is so many calls at rounds that rise, mostly: from 0 on, from any round on, or up to 2^62.
func drawn(random *rand.Rand, length int) []call {
	now := []int{0, 0, random.IntN(top), top - random.IntN(2*length)}[random.IntN(4)]
	takes, steps := random.IntN(8), 1+random.IntN(4)
	l := make([]call, length)
	for i := range l {
		c := call{aTake, now}
		if random.IntN(10) >= takes {
			c.kind = random.IntN(kinds)
		}
		switch random.IntN(10) {
		case 0:
			c.round = now - random.IntN(5)
		case 1, 2, 3:
			now += random.IntN(steps)
			c.round = now
		case 4:
			if random.IntN(20) == 0 {
				c.round = ends()[random.IntN(len(ends()))]
			}
		}
		l[i] = c
	}
	return l
}

// drawnRows are rows for each rate and each cap.
func drawnRows(seed uint64) iter.Seq2[size, []call] {
	random := rand.New(rand.NewPCG(seed, seed))
	return func(yield func(size, []call) bool) {
		for n := range 65 * 64 * 2 {
			if !yield(size{n % 65, 1 + n/65%64}, drawn(random, 150)) {
				return
			}
		}
	}
}

func TestEachRowAnswersAsTheRecord(t *testing.T) {
	t.Parallel()
	for s, row := range few() {
		x, r := made(t, s.rate, s.cap), newRecord(s.rate, s.cap)
		for _, c := range row {
			asTold(t, x.b, r, c)
		}
		// Only behind the last call: a shorter row asked behind the others.
		asTold(t, x.b, r, call{aTokens, -1})
		asTold(t, x.b, r, call{aWait, -1})
		x.own(r.round)
		if t.Failed() {
			t.Fatalf("%+v: the row %+v", s, row)
		}
	}
}

func TestDrawnRowsAnswerAsTheRecord(t *testing.T) {
	t.Parallel()
	for s, row := range drawnRows(51) {
		x, r := made(t, s.rate, s.cap), newRecord(s.rate, s.cap)
		for i, c := range row {
			asTold(t, x.b, r, c)
			x.is(r.tokens, r.round)
			if t.Failed() {
				t.Fatalf("%+v: the row %+v", s, row[:i+1])
			}
		}
	}
}

func TestWhatIsAskedBetweenTurnsNothing(t *testing.T) {
	t.Parallel()
	for s, row := range drawnRows(53) {
		b, other := bucket.New(s.rate, s.cap), bucket.New(s.rate, s.cap)
		for i, c := range row {
			// The one is asked, at rounds that aren't above its own; the other one isn't.
			for _, round := range []int{b.Round(), b.Round() - 1 - i, -i} {
				b.Tokens(round)
				b.Wait(round)
			}
			b.Rate()
			b.Cap()
			bucket.Most(s.rate, s.cap, c.round)
			asTold(t, b, other, c)
			if t.Failed() {
				t.Fatalf("%+v: the row %+v", s, row[:i+1])
			}
		}
	}
}

func TestRoundsBetweenMayBeComeToOrNot(t *testing.T) {
	t.Parallel()
	for s, row := range drawnRows(55) {
		b, other := bucket.New(s.rate, s.cap), bucket.New(s.rate, s.cap)
		for i, c := range row {
			// The one comes to some of the rounds up to the call's, first; the other one doesn't.
			for _, less := range slices.Backward([]int{0, 1, 2, 7}) {
				b.Tokens(max(c.round, 0) - less)
			}
			asTold(t, b, other, c)
			if t.Failed() {
				t.Fatalf("%+v: the row %+v", s, row[:i+1])
			}
		}
	}
}
