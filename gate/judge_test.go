package gate_test

import (
	"math"
	"slices"
	"testing"

	"empennage/api"
	"empennage/gate"
)

// ask is what Judge is asked.
type ask struct {
	k          api.Channel
	mode, lane int
	words      []int
}

// judge fails unless Judge tells that, and leaves the words as they are.
func judge(t *testing.T, a ask, want api.Errno) {
	t.Helper()
	words := slices.Clone(a.words)
	if e := gate.Judge(a.k, a.mode, a.lane, words); e != want || !slices.Equal(words, a.words) {
		t.Errorf("%+v: %v, not %v; the words %v", a, e, want, words)
	}
}

// fault turns what is asked so that a rule isn't fulfilled; that rule tells e.
type fault struct {
	e    api.Errno
	turn func(a *ask)
}

// modes are faults of the mode of who sends.
func modes() []fault {
	var l []fault
	for _, mode := range []int{api.Warm, api.Stopped, -1, 3, 256, 1 << 32, math.MinInt, math.MaxInt} {
		l = append(l, fault{api.InvalidMode, func(a *ask) { a.mode = mode }})
	}
	return l
}

// channelKinds are faults of the channel's kind.
func channelKinds() []fault {
	var l []fault
	for _, kind := range []int{api.Sampling, -1, 2, 257, 1<<32 + 1, math.MinInt, math.MaxInt} {
		l = append(l, fault{api.InvalidConfig, func(a *ask) { a.k.Kind = kind }})
	}
	return l
}

// lanes are faults of the lane.
func lanes() []fault {
	l := []fault{{api.InvalidParam, func(a *ask) { a.lane = a.k.Lanes }}}
	for _, n := range []int{-1, 3, 256, 1 << 32, math.MinInt, math.MaxInt} {
		l = append(l, fault{api.InvalidParam, func(a *ask) { a.lane = n }})
	}
	return l
}

// counts are faults of how many words there are.
func counts() []fault {
	return []fault{
		{api.InvalidParam, func(a *ask) { a.words = nil }},
		{api.InvalidParam, func(a *ask) { a.words = []int{} }},
		{api.InvalidParam, func(a *ask) { a.words = make([]int, a.k.Words+1) }},
		{api.InvalidParam, func(a *ask) { a.words = make([]int, 300) }},
	}
}

// badWords are faults of a word, at the first or the last place.
func badWords() []fault {
	var l []fault
	for _, word := range []int{-1, 1 << 31, 1<<31 + 1, 1 << 32, -1 << 32, math.MinInt, math.MaxInt} {
		l = append(l,
			fault{api.InvalidParam, func(a *ask) { a.words = append([]int{word}, a.words[min(len(a.words), 1):]...) }},
			fault{api.InvalidParam, func(a *ask) { a.words = append(slices.Clone(a.words[:max(len(a.words), 1)-1]), word) }},
		)
	}
	return l
}

// faults are all of them: a rule's stand behind those of the rules that are named ahead of it.
func faults() []fault {
	return slices.Concat(modes(), channelKinds(), lanes(), counts(), badWords())
}

// fine are what may go on, of channels of each number of words and lanes.
func fine() []ask {
	var l []ask
	for n := range 4 * 3 {
		k := channel()
		k.Words, k.Lanes = 1+n%4, 1+n/4
		for _, in := range []int{0, k.Lanes - 1} {
			for _, words := range [][]int{{0}, {1<<31 - 1}, slices.Repeat([]int{5}, k.Words)} {
				l = append(l, ask{k, api.Normal, in, words})
			}
		}
	}
	return l
}

func TestJudgeOfWhatMayGoOn(t *testing.T) {
	for _, a := range fine() {
		judge(t, a, api.NoError)
	}
	k := channel()
	k.Words = 4
	for _, words := range [][]int{{0}, {0, 0}, {1, 2, 3}, {0, 1<<31 - 1, 0, 1<<31 - 1}, {1<<31 - 1, 0, 1<<31 - 1, 0}} {
		for in := range 3 {
			judge(t, ask{k, api.Normal, in, words}, api.NoError)
		}
	}
}

func TestJudgeByEachRuleAlone(t *testing.T) {
	for _, f := range faults() {
		for _, a := range fine() {
			f.turn(&a)
			judge(t, a, f.e)
		}
	}
}

func TestJudgeByEachTwoRules(t *testing.T) {
	all := faults()
	for i, first := range all {
		for _, second := range all[i:] {
			for _, a := range fine() {
				b := a
				first.turn(&a)
				second.turn(&a)
				judge(t, a, first.e)
				// Which of both is turned first is nothing to the answer.
				second.turn(&b)
				first.turn(&b)
				judge(t, b, first.e)
			}
		}
	}
}

func TestJudgeByAllRules(t *testing.T) {
	for _, a := range fine() {
		for _, m := range modes() {
			for _, k := range channelKinds() {
				for _, f := range slices.Concat(lanes(), counts(), badWords()) {
					b := a
					m.turn(&b)
					k.turn(&b)
					f.turn(&b)
					judge(t, b, api.InvalidMode)
				}
			}
		}
	}
}

func TestJudgeOfEachWord(t *testing.T) {
	k := channel()
	k.Words = 4
	for count := 1; count <= 4; count++ {
		for place := range count {
			for _, x := range []struct {
				word int
				e    api.Errno
			}{
				{0, 0}, {1, 0}, {255, 0}, {256, 0}, {65536, 0}, {1<<31 - 2, 0}, {1<<31 - 1, 0},
				{-1, 3}, {-2, 3}, {1 << 31, 3}, {1<<31 + 1, 3}, {1<<32 - 1, 3}, {1 << 32, 3}, {-1 << 31, 3}, {-1 << 32, 3},
				{1<<32 + 5, 3}, {top, 3}, {math.MinInt, 3}, {math.MaxInt, 3},
			} {
				words := slices.Repeat([]int{7}, count)
				words[place] = x.word
				judge(t, ask{k, api.Normal, 1, words}, x.e)
			}
		}
	}
}

func TestJudgeOfEachCount(t *testing.T) {
	for most := 1; most <= 4; most++ {
		k := channel()
		k.Words = most
		judge(t, ask{k, api.Normal, 0, nil}, api.InvalidParam)
		for count := range 10 {
			want := api.NoError
			if count == 0 || count > most {
				want = api.InvalidParam
			}
			// What stands behind the words, in their memory, is none of them.
			words := slices.Repeat([]int{-1}, 12)
			clear(words[:count])
			judge(t, ask{k, api.Normal, 0, words[:count]}, want)
		}
	}
}

func TestJudgeOfAnyModeKindAndLane(t *testing.T) {
	for _, mode := range numbers() {
		for _, kind := range numbers() {
			for _, in := range numbers() {
				k := channel()
				k.Kind = kind
				judge(t, ask{k, mode, in, []int{4}}, judged(k, mode, in, []int{4}))
			}
		}
	}
}

func TestJudgeTakesTheChannelsNumbersAsTheyAre(t *testing.T) {
	for _, n := range numbers() {
		k := channel()
		k.Lanes = n
		for _, in := range append(numbers(), n-1, n) {
			want := api.InvalidParam
			if in >= 0 && in < n {
				want = api.NoError
			}
			judge(t, ask{k, api.Normal, in, []int{1}}, want)
		}
		k = channel()
		k.Words = n
		for _, count := range []int{0, 1, 2, 3, 4, 5, 8, 63, 64, 65, 999, 1000, 1001} {
			want := api.InvalidParam
			if count > 0 && count <= n {
				want = api.NoError
			}
			judge(t, ask{k, api.Normal, 0, make([]int, count)}, want)
		}
	}
}

func TestJudgeAsksNoOtherNumberOfTheChannel(t *testing.T) {
	for _, n := range numbers() {
		for field := range 8 {
			for _, f := range append(faults(), fault{0, func(*ask) {}}) {
				a := fine()[0]
				k := &a.k
				*[]*int{&k.From, &k.To, &k.Refresh, &k.Depth, &k.Hold, &k.Life, &k.Rate, &k.Cap}[field] = n
				f.turn(&a)
				judge(t, a, f.e)
			}
		}
	}
	judge(t, ask{api.Channel{}, api.Normal, 0, []int{1}}, api.InvalidConfig)
	judge(t, ask{api.Channel{}, api.Warm, 0, []int{1}}, api.InvalidMode)
	judge(t, ask{api.Channel{Kind: api.Queuing}, api.Normal, 0, []int{1}}, api.InvalidParam)
}

func TestOfferIsJudgedFirst(t *testing.T) {
	for _, f := range faults() {
		for _, a := range fine() {
			f.turn(&a)
			refused := func(x look) {
				x.offers(call{mode: a.mode, lane: a.lane, words: a.words, now: 3, round: 8}, f.e)
			}
			k := a.k
			k.Cap = 2
			// With room and a token; without room, with one; with room, without one; with neither.
			refused(made(t, k))
			if k.Kind != api.Queuing {
				continue
			}
			k.Depth = 1
			refused(made(t, k).fills(0, 1, 0))
			k.Depth, k.Rate = 3, 0
			refused(made(t, k).fills(0, 2, 0))
			k.Depth = 2
			refused(made(t, k).fills(0, 2, 0))
		}
	}
}

func TestOfferOfAnyModeAndKind(t *testing.T) {
	for _, mode := range numbers() {
		for _, kind := range numbers() {
			k := channel()
			k.Kind = kind
			x := made(t, k)
			want := judged(k, mode, 1, []int{4})
			x.offers(call{mode: mode, lane: 1, words: []int{4}, now: 7, round: 3}, want)
			if seq := x.g.Seq(); (seq == 1) != (want == api.NoError) {
				t.Errorf("mode %d, kind %d: Seq = %d", mode, kind, seq)
			}
		}
	}
}
