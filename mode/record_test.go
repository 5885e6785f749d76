package mode_test

import (
	"iter"
	"math"
	"math/rand/v2"
	"slices"
	"testing"

	"empennage/api"
	"empennage/mode"
)

// record is what partitions are to be: which of them are Warm, which are Stopped, what is done of their faults, and how often they were Up.
type record struct {
	acts          []int
	warm, stopped map[int]bool
	ups           map[int]int
}

func recordOf(actions []int) *record {
	r := &record{warm: map[int]bool{}, stopped: map[int]bool{}, ups: map[int]int{}}
	for i, action := range actions {
		if i < 4 && (action == 1 || action == 2) {
			r.acts = append(r.acts, action)
		} else if i < 4 {
			r.acts = append(r.acts, 0)
		}
	}
	if len(actions) == 0 {
		r.acts = []int{0}
	}
	return r
}

func (r *record) none(p int) bool { return p < 0 || p >= len(r.acts) }

func (r *record) Fault(p int) (int, api.Errno) {
	if r.none(p) {
		return 0, api.ErrRange
	}
	if r.warm[p] || r.stopped[p] {
		return 0, api.InvalidMode
	}
	r.warm[p] = r.acts[p] == 1
	r.stopped[p] = r.acts[p] == 2
	return r.acts[p], api.NoError
}

func (r *record) Again(p int) api.Errno {
	switch {
	case r.none(p):
		return api.ErrRange
	case r.stopped[p]:
		return api.InvalidMode
	case r.warm[p]:
		return api.NoAction
	}
	r.warm[p] = true
	return api.NoError
}

func (r *record) Up(p int) bool {
	was := r.warm[p]
	if was {
		delete(r.warm, p)
		r.ups[p]++
	}
	return was
}

func (r *record) Mode(p int) (int, bool) {
	switch {
	case r.none(p):
		return 0, false
	case r.stopped[p]:
		return 2, true
	case r.warm[p]:
		return 1, true
	}
	return 0, true
}

func (r *record) Starts(p int) int { return r.ups[p] }

func (r *record) All() []int {
	var all []int
	for p := range r.acts {
		n, _ := r.Mode(p)
		all = append(all, n)
	}
	return all
}

// The kinds of calls that turn partitions.
const (
	aFault = iota
	anAgain
	anUp
	kinds
)

// call is one that turns partitions.
type call struct{ kind, p int }

// turned is partitions, or a record of them.
type turned interface {
	Fault(p int) (int, api.Errno)
	Again(p int) api.Errno
	Up(p int) bool
	Mode(p int) (int, bool)
	Starts(p int) int
	All() []int
}

// said is what a call answers: a zero in the place of what it doesn't.
type said struct {
	action int
	e      api.Errno
	was    bool
}

// answer makes the call, and tells what it answers.
func answer(m turned, c call) said {
	switch c.kind {
	case aFault:
		action, e := m.Fault(c.p)
		return said{action: action, e: e}
	case anAgain:
		return said{e: m.Again(c.p)}
	}
	return said{was: m.Up(c.p)}
}

// asTold makes the call of both, and fails unless they answer it alike. It is no helper of the tests: to say so takes longer than the call.
func asTold(t *testing.T, m, r turned, c call) {
	if got, want := answer(m, c), answer(r, c); got != want {
		t.Errorf("%+v = %+v, not %+v", c, got, want)
	}
}

// same fails unless both tell the same of these partitions.
func same(t *testing.T, a, b turned, ps ...int) {
	if !slices.Equal(a.All(), b.All()) {
		t.Errorf("%v, and %v", a.All(), b.All())
	}
	for _, p := range ps {
		n, is := a.Mode(p)
		if m, i := b.Mode(p); n != m || is != i || a.Starts(p) != b.Starts(p) {
			t.Errorf("of %d %d, %v, %d, and %d, %v, %d", p, n, is, a.Starts(p), m, i, b.Starts(p))
		}
	}
}

// rows are all rows of so many of these calls; each is gone when the next one comes.
func rows(l []call, length int) iter.Seq[[]call] {
	return func(yield func([]call) bool) {
		row := make([]call, length)
		var put func(i int) bool
		put = func(i int) bool {
			if i == length {
				return yield(row)
			}
			for _, c := range l {
				row[i] = c
				if !put(i + 1) {
					return false
				}
			}
			return true
		}
		put(0)
	}
}

// few are all rows of calls up to some length, with all lists of actions for each number of them.
func few() iter.Seq2[[]int, []call] {
	return func(yield func([]int, []call) bool) {
		for n, most := range []int{4, 8, 5, 4, 3} {
			// A partition that isn't there stands among those that are.
			l := []call{{aFault, n}, {anAgain, -1}, {anUp, n}}
			for p := range max(n, 1) {
				l = append(l, call{aFault, p}, call{anAgain, p}, call{anUp, p})
			}
			if n == 1 {
				l = l[3:]
			}
			for list := range lists(n) {
				for length := range most + 1 {
					for row := range rows(l, length) {
						if !yield(list, row) {
							return
						}
					}
				}
			}
		}
	}
}

// drawn is actions, and so many calls of their partitions, mostly.
func drawn(random *rand.Rand, length int) ([]int, []call) {
	list := make([]int, random.IntN(7))
	stops := random.IntN(4)
	for i := range list {
		switch list[i] = random.IntN(2); {
		case random.IntN(4) < stops:
			list[i] = api.Stop
		case random.IntN(9) == 0:
			list[i] = ends()[random.IntN(len(ends()))]
		}
	}
	// Where faults are few, who would be stopped isn't so at once.
	faults := random.IntN(20)
	l := make([]call, length)
	for i := range l {
		c := call{anAgain + random.IntN(2), random.IntN(5)}
		if random.IntN(30) < faults {
			c.kind = aFault
		}
		if random.IntN(30) == 0 {
			c.p = ends()[random.IntN(len(ends()))]
		}
		l[i] = c
	}
	return list, l
}

// drawnRows are many rows of calls, with their actions.
func drawnRows(seed uint64) iter.Seq2[[]int, []call] {
	random := rand.New(rand.NewPCG(seed, seed))
	return func(yield func([]int, []call) bool) {
		for range 3000 {
			if !yield(drawn(random, 200)) {
				return
			}
		}
	}
}

func TestEachRowAnswersAsTheRecord(t *testing.T) {
	t.Parallel()
	for list, row := range few() {
		m, r := mode.New(list), recordOf(list)
		for _, c := range row {
			asTold(t, m, r, c)
		}
		// Only behind the last call: a shorter row asked behind the others.
		same(t, m, r, -1, 0, 1, 2, 3, 4)
		if t.Failed() {
			t.Fatalf("of %v the row %+v", list, row)
		}
	}
}

func TestDrawnRowsAnswerAsTheRecord(t *testing.T) {
	t.Parallel()
	for list, row := range drawnRows(81) {
		m, r := mode.New(list), recordOf(list)
		for i, c := range row {
			asTold(t, m, r, c)
			same(t, m, r, -1, 0, 1, 2, 3, 4, 5, c.p, math.MinInt, math.MaxInt)
			if t.Failed() {
				t.Fatalf("of %v the row %+v", list, row[:i+1])
			}
		}
	}
}

func TestWhatIsAskedBetweenTurnsNothing(t *testing.T) {
	t.Parallel()
	for list, row := range drawnRows(83) {
		m, other := mode.New(list), mode.New(list)
		for i, c := range row {
			// The one is asked, the other one isn't.
			m.All()
			m.Mode(c.p)
			m.Starts(c.p)
			asTold(t, m, other, c)
			if t.Failed() {
				t.Fatalf("of %v the row %+v", list, row[:i+1])
			}
		}
		same(t, m, other, 0, 1, 2, 3)
	}
}
