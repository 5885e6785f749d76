package bucket_test

import (
	"math"
	"math/big"
	"testing"

	"empennage/api"
	"empennage/bucket"
)

const top = api.MaxTick

// ends are rounds at the ends of what a round, or an int, may be.
func ends() []int {
	return []int{
		math.MinInt, math.MinInt + 1, -top - 1, -top, -2, -1, 0, 1, 2, 63, 64, 65, 1 << 31, 1 << 32,
		top - 64, top - 2, top - 1, top, top + 1, math.MaxInt - 1, math.MaxInt,
	}
}

// about are rounds below, at and above that one, and those at the ends.
func about(own int) []int {
	l := append(ends(), own)
	for _, n := range []int{1, 2, 3, 4, 31, 32, 33, 63, 64, 65, 1 << 31, 1 << 32, 1 << 57, 1 << 58, 1 << 61} {
		l = append(l, own-n, own+n)
	}
	return l
}

// many are numbers of rounds by which a rate runs over as an int, or nearly so.
func many(rate int) []int {
	l := []int{top, top - 1, top / 3}
	for n := range 62 {
		l = append(l, 1<<n-1, 1<<n, 1<<n+1)
	}
	// Behind these a product without bounds were one just above, and just below, 0 again.
	for _, whole := range []uint64{1 << 63, math.MaxUint64} {
		if n := whole / uint64(max(rate, 1)); n < top-2 {
			l = append(l, int(n)-1, int(n), int(n)+1, int(n)+2)
		}
	}
	return l
}

// numbers are some of any, about the bounds of rates and caps.
func numbers() []int {
	return append(ends(), -65, -64, -3, 3, 7, 32, 62, 66, 128, 256, 257, -1<<32, -1<<32+5, 1<<32+5)
}

// cut is the number of a round that is nearest to n.
func cut(n int) int { return min(max(n, 0), 1<<62) }

// look is a bucket that is held against what it is to be.
type look struct {
	t         *testing.T
	b         *bucket.Bucket
	rate, cap int
}

// made is a new bucket; the numbers are within what there may be.
func made(t *testing.T, rate, cap int) look { return look{t, bucket.New(rate, cap), rate, cap} }

// of is a bucket that has so many tokens, in that round; no call of it is at a round that isn't its own.
func of(t *testing.T, rate, cap, tokens, round int) look {
	t.Helper()
	x := made(t, rate, cap)
	x.b.Reset(round)
	for range cap - tokens {
		x.take(round, true)
	}
	return x
}

// tokens fails unless it has so many, in that round.
func (x look) tokens(round, want int) {
	x.t.Helper()
	if n := x.b.Tokens(round); n != want {
		x.t.Errorf("rate %d, cap %d: Tokens(%d) = %d, not %d", x.rate, x.cap, round, n, want)
	}
}

// take fails unless there was one, or none.
func (x look) take(round int, want bool) {
	x.t.Helper()
	if is := x.b.Take(round); is != want {
		x.t.Errorf("rate %d, cap %d: Take(%d) = %v, not %v", x.rate, x.cap, round, is, want)
	}
}

// wait fails unless that is the first round with a token, or there is none.
func (x look) wait(round, want int, so bool) {
	x.t.Helper()
	if n, is := x.b.Wait(round); n != want || is != so {
		x.t.Errorf("rate %d, cap %d: Wait(%d) = %d, %v, not %d, %v", x.rate, x.cap, round, n, is, want, so)
	}
}

// own fails unless the bucket's own numbers are these.
func (x look) own(round int) {
	x.t.Helper()
	if b := x.b; b.Round() != round || b.Rate() != x.rate || b.Cap() != x.cap {
		x.t.Errorf("round %d, rate %d, cap %d, not %d, %d, %d", b.Round(), b.Rate(), b.Cap(), round, x.rate, x.cap)
	}
}

// is fails unless the bucket has so many tokens, and that round; it asks at no round above that.
func (x look) is(tokens, round int) {
	x.t.Helper()
	x.own(round)
	for _, r := range []int{round, round - 1, math.MinInt} {
		x.tokens(r, tokens)
		switch {
		case tokens > 0:
			x.wait(r, round, true)
		case x.rate > 0 && round < top:
			x.wait(r, round+1, true)
		default:
			x.wait(r, 0, false)
		}
		x.own(round)
	}
}

func TestExample(t *testing.T) {
	x := made(t, 2, 3)
	for _, round := range []int{0, 0, 0} {
		x.take(round, true)
	}
	x.take(0, false)
	x.take(1, true)
	x.take(1, true)
	x.take(1, false)
	x.is(0, 1)
}

func TestNewOfEachRateAndCap(t *testing.T) {
	for rate := range 65 {
		for cap := 1; cap <= 64; cap++ {
			x := made(t, rate, cap)
			x.is(cap, 0)
			for left := cap - 1; left >= 0; left-- {
				x.take(0, true)
				x.tokens(0, left)
			}
			x.take(0, false)
			x.is(0, 0)
			x.tokens(1, min(rate, cap))
			x.is(min(rate, cap), 1)
		}
	}
}

func TestNewOfAnyNumber(t *testing.T) {
	for _, rate := range numbers() {
		for _, cap := range numbers() {
			x := look{t, bucket.New(rate, cap), min(max(rate, 0), 64), min(max(cap, 1), 64)}
			x.is(x.cap, 0)
			for range x.cap {
				x.take(0, true)
			}
			x.take(0, false)
			x.tokens(1, min(x.rate, x.cap))
			x.is(min(x.rate, x.cap), 1)
			if t.Failed() {
				t.Fatalf("New(%d, %d)", rate, cap)
			}
		}
	}
	for _, x := range []struct{ rate, cap, isRate, isCap int }{
		{-1, 5, 0, 5}, {65, 5, 64, 5}, {5, 0, 5, 1}, {5, -1, 5, 1}, {5, 65, 5, 64}, {0, 1, 0, 1}, {64, 64, 64, 64},
		{math.MinInt, math.MinInt, 0, 1}, {math.MaxInt, math.MaxInt, 64, 64}, {math.MaxInt, math.MinInt, 64, 1}, {math.MinInt, math.MaxInt, 0, 64},
	} {
		look{t, bucket.New(x.rate, x.cap), x.isRate, x.isCap}.is(x.isCap, 0)
	}
}

func TestEachCallAtEachRound(t *testing.T) {
	for _, rate := range []int{0, 1, 2, 3, 63, 64} {
		for _, cap := range []int{1, 2, 3, 33, 64} {
			for _, tokens := range []int{0, 1, cap / 2, cap - 1, cap} {
				for _, own := range []int{0, 1, 5, 1 << 32, top - 64, top - 1, top} {
					for _, round := range about(own) {
						for kind := range kinds {
							x, r := of(t, rate, cap, tokens, own), &record{rate, cap, tokens, own}
							x.is(tokens, own)
							asTold(t, x.b, r, call{kind, round})
							x.is(r.tokens, r.round)
							if t.Failed() {
								t.Fatalf("rate %d, cap %d, %d tokens in the round %d: %v", rate, cap, tokens, own, call{kind, round})
							}
						}
					}
				}
			}
		}
	}
}

func TestRoundThatIsNotAboveItsOwn(t *testing.T) {
	for _, rate := range []int{0, 1, 2, 64} {
		for _, own := range []int{0, 1, 7, 1 << 40, top - 1, top} {
			x := of(t, rate, 9, 6, own)
			for _, round := range about(own) {
				// At 2^62 all rounds above are that one too.
				if cut(round) > own {
					continue
				}
				x.tokens(round, 6)
				x.is(6, own)
				x.wait(round, own, true)
				x.is(6, own)
				x.take(round, true)
				x.is(5, own)
				x.b.Reset(round)
				x.is(9, own)
				for left := 8; left >= 6; left-- {
					x.take(round, true)
					x.is(left, own)
				}
			}
		}
	}
}

func TestTokensUpToTheCapAndNoMore(t *testing.T) {
	for _, x := range []struct{ rate, cap, tokens, rounds, want int }{
		{2, 10, 0, 1, 2}, {2, 10, 0, 4, 8}, {2, 10, 0, 5, 10}, {2, 10, 0, 6, 10}, {2, 10, 3, 3, 9}, {2, 10, 3, 4, 10},
		{2, 10, 8, 1, 10}, {2, 10, 9, 1, 10}, {2, 10, 10, 1, 10}, {3, 10, 1, 2, 7}, {3, 10, 1, 3, 10}, {3, 10, 2, 3, 10},
		{0, 10, 0, 1, 0}, {0, 10, 4, 1000, 4}, {0, 10, 10, top, 10}, {0, 1, 0, top, 0}, {1, 1, 0, 1, 1}, {64, 1, 0, 1, 1},
		{1, 64, 0, 63, 63}, {1, 64, 0, 64, 64}, {1, 64, 0, 65, 64}, {1, 64, 63, 1, 64}, {1, 64, 63, 2, 64}, {1, 64, 0, 1 << 32, 64},
		{64, 64, 0, 1, 64}, {64, 64, 1, 1, 64}, {63, 64, 0, 1, 63}, {63, 64, 1, 1, 64}, {63, 64, 2, 1, 64}, {32, 64, 0, 2, 64},
		{64, 64, 0, 1 << 57, 64}, {64, 64, 0, 1 << 58, 64}, {4, 64, 0, 1 << 60, 64}, {4, 64, 0, 1 << 61, 64}, {2, 3, 0, top, 3},
	} {
		for _, own := range []int{0, 1, 64, 1 << 31} {
			if x.rounds > top-own {
				continue
			}
			b := of(t, x.rate, x.cap, x.tokens, own)
			b.tokens(own+x.rounds, x.want)
			b.is(x.want, own+x.rounds)
		}
	}
}

func TestTokensOfVeryManyRounds(t *testing.T) {
	for rate := range 65 {
		for _, cap := range []int{1, 5, 64} {
			for _, tokens := range []int{0, cap - 1, cap} {
				for _, rounds := range many(rate) {
					x, want := of(t, rate, cap, tokens, 0), cap
					// There are enough of them to fill it by any rate.
					if rate == 0 || rounds < 64 {
						want = min(cap, tokens+rate*rounds)
					}
					x.tokens(rounds, want)
					x.is(want, rounds)
				}
			}
		}
	}
}

func TestTakeOfTheLastTokenAndOfNone(t *testing.T) {
	for _, x := range []struct {
		rate, own, next int
		is              bool
	}{
		{0, 0, 0, false}, {0, 9, 0, false}, {0, top, 0, false},
		{1, 0, 1, true}, {1, 9, 10, true}, {2, 9, 10, true}, {64, 9, 10, true},
		{1, top - 1, top, true}, {64, top - 2, top - 1, true}, {1, top, 0, false}, {64, top, 0, false},
	} {
		for _, cap := range []int{1, 2, 64} {
			b := of(t, x.rate, cap, 1, x.own)
			b.wait(x.own, x.own, true)
			b.take(x.own, true)
			for range 3 {
				b.own(x.own)
				b.tokens(x.own, 0)
				b.wait(x.own, x.next, x.is)
				b.take(x.own, false)
			}
			b.is(0, x.own)
		}
	}
}

func TestTakeOfNoneHasComeToItsRound(t *testing.T) {
	for _, own := range []int{0, 3, top - 5} {
		x := of(t, 0, 2, 0, own)
		x.take(own+4, false)
		x.is(0, own+4)
		x.take(own+2, false)
		x.is(0, own+4)
		x.take(math.MaxInt, false)
		x.is(0, top)
	}
	// One that comes in the round is taken in it.
	x := of(t, 1, 2, 0, 3)
	x.take(4, true)
	x.is(0, 4)
	x.take(4, false)
	x.take(3, false)
	x.is(0, 4)
	x.take(7, true)
	x.is(1, 7)
}

func TestWaitWithAToken(t *testing.T) {
	for _, rate := range []int{0, 1, 2, 64} {
		for tokens := 1; tokens <= 5; tokens++ {
			for _, own := range []int{0, 1, 77, top - 1, top} {
				x := of(t, rate, 5, tokens, own)
				x.wait(own, own, true)
				x.wait(own-1, own, true)
				x.wait(math.MinInt, own, true)
				x.is(tokens, own)
				later := min(own+1, top)
				x.wait(own+1, later, true)
				x.is(min(5, tokens+rate*(later-own)), later)
				x.wait(math.MaxInt, top, true)
				x.own(top)
			}
		}
	}
}

func TestWaitWithoutAToken(t *testing.T) {
	for rate := 1; rate <= 64; rate++ {
		for _, cap := range []int{1, 2, 63, 64} {
			x := of(t, rate, cap, 0, 8)
			x.wait(8, 9, true)
			x.wait(7, 9, true)
			x.wait(-1, 9, true)
			x.is(0, 8)
			// The round that it told isn't come to till it is asked for: then the token is there.
			x.take(8, false)
			x.wait(9, 9, true)
			x.is(min(rate, cap), 9)
		}
	}
}

func TestWaitOfRateNone(t *testing.T) {
	for _, cap := range []int{1, 2, 64} {
		x := of(t, 0, cap, 0, 8)
		x.wait(8, 0, false)
		x.wait(0, 0, false)
		x.is(0, 8)
		x.wait(500, 0, false)
		x.is(0, 500)
		x.wait(math.MaxInt, 0, false)
		x.is(0, top)
		x.b.Reset(0)
		x.wait(0, top, true)
	}
}

func TestWaitInTheLastRound(t *testing.T) {
	for _, rate := range []int{0, 1, 2, 64} {
		for _, round := range []int{0, top - 1, top, top + 1, math.MaxInt, math.MinInt} {
			x := of(t, rate, 3, 0, top)
			x.wait(round, 0, false)
			x.take(round, false)
			x.is(0, top)
			x.b.Reset(round)
			x.wait(round, top, true)
			x.is(3, top)
		}
	}
	// One round ahead the last one has it still.
	x := of(t, 1, 3, 0, top-1)
	x.wait(0, top, true)
	x.is(0, top-1)
	x.take(top+1, true)
	x.wait(0, 0, false)
	x.is(0, top)
}

func TestResetAtAnyRound(t *testing.T) {
	for _, rate := range []int{0, 1, 64} {
		for _, cap := range []int{1, 2, 64} {
			for _, tokens := range []int{0, 1, cap} {
				for _, own := range []int{0, 6, top - 1, top} {
					for _, round := range about(own) {
						x := of(t, rate, cap, tokens, own)
						x.b.Reset(round)
						x.is(cap, max(own, cut(round)))
						for range cap {
							x.take(round, true)
						}
						x.take(round, false)
						x.is(0, max(own, cut(round)))
					}
				}
			}
		}
	}
}

func TestMostWrittenOut(t *testing.T) {
	for _, x := range []struct{ rate, cap, rounds, want int }{
		{2, 3, 0, 3}, {2, 3, 1, 5}, {2, 3, 10, 23}, {0, 3, 10, 3}, {0, 1, top, 1}, {1, 1, 1, 2}, {64, 1, 1, 65}, {64, 64, 64, 64 * 65},
		{1, 2, -3, 2}, {1, 2, math.MinInt, 2}, {-1, 2, 5, 2}, {math.MinInt, 2, 5, 2}, {65, 2, 5, 322}, {math.MaxInt, 2, 5, 322},
		{2, 0, 5, 11}, {2, -7, 5, 11}, {2, math.MinInt, 5, 11}, {2, 65, 5, 74}, {2, math.MaxInt, 5, 74},
		{math.MinInt, math.MinInt, math.MinInt, 1}, {math.MaxInt, math.MaxInt, math.MaxInt, top}, {math.MaxInt, math.MaxInt, math.MinInt, 64},
		{1, 1, top - 2, top - 1}, {1, 1, top - 1, top}, {1, 1, top, top}, {1, 2, top - 1, top}, {1, 64, top - 65, top - 1}, {1, 64, top - 64, top},
		{1, 64, top - 63, top}, {64, 64, top / 64, top}, {64, 64, top/64 - 1, top}, {64, 63, top/64 - 1, top - 1}, {2, 1, top / 2, top},
		{4, 1, top / 2, top}, {64, 1, 1 << 58, top}, {64, 1, 1 << 57, top}, {64, 65, top, top}, {1, 1, math.MaxInt, top}, {0, 64, math.MaxInt, 64},
	} {
		if n := bucket.Most(x.rate, x.cap, x.rounds); n != x.want {
			t.Errorf("Most(%d, %d, %d) = %d, not %d", x.rate, x.cap, x.rounds, n, x.want)
		}
	}
}

// most is what Most is to tell, worked out without the bounds of an int.
func most(rate, cap, rounds int) int {
	n := big.NewInt(int64(min(max(rate, 0), 64)))
	n.Mul(n, big.NewInt(int64(cut(rounds))))
	n.Add(n, big.NewInt(int64(min(max(cap, 1), 64))))
	if n.Cmp(big.NewInt(top)) > 0 {
		return top
	}
	return int(n.Int64())
}

func TestMostOfAnyNumber(t *testing.T) {
	asks := func(rate, cap, rounds int) {
		if n, want := bucket.Most(rate, cap, rounds), most(rate, cap, rounds); n != want {
			t.Errorf("Most(%d, %d, %d) = %d, not %d", rate, cap, rounds, n, want)
		}
	}
	for _, rate := range numbers() {
		for _, cap := range numbers() {
			for _, rounds := range about(9) {
				asks(rate, cap, rounds)
			}
		}
	}
	for rate := range 65 {
		for cap := 1; cap <= 64; cap++ {
			for _, rounds := range many(rate) {
				asks(rate, cap, rounds)
			}
		}
	}
}

func TestBucketsShareNothing(t *testing.T) {
	a, b := made(t, 2, 5), made(t, 2, 5)
	a.take(3, true)
	b.is(5, 0)
	b.take(0, true)
	b.take(0, true)
	a.is(4, 3)
	a.b.Reset(9)
	b.is(3, 0)
	a.is(5, 9)
}

func TestNil(t *testing.T) {
	var x look
	x.t = t
	for range 2 {
		for _, round := range about(5) {
			x.tokens(round, 0)
			x.take(round, false)
			x.wait(round, 0, false)
			x.b.Reset(round)
			x.own(0)
		}
	}
}

func TestBucketThatNewDidNotMake(t *testing.T) {
	// No chapter speaks of it: its calls have but to end, and not to panic (T0).
	b := new(bucket.Bucket)
	for _, round := range about(5) {
		b.Tokens(round)
		b.Take(round)
		b.Wait(round)
		b.Reset(round)
	}
	b.Round()
	b.Rate()
	b.Cap()
}
