package ring_test

import (
	"math/rand/v2"
	"slices"
	"testing"

	"empennage/api"
	"empennage/ring"
)

// half is what one side of a record has under way.
type half struct {
	under bool
	made  int
	held  int   // how many were held at its first access
	list  []int // the words that are pushed, or popped
}

// record is what a ring is to be, by how many were pushed and popped in all, instead of head and tail.
type record struct {
	words     int
	slots     [][]int
	in, out   int
	push, pop half
}

func newRecord(places, words int) *record {
	m := &record{words: words}
	for range places {
		m.slots = append(m.slots, make([]int, words))
	}
	return m
}

// side is what that side has under way.
func (m *record) side(side bool) *half {
	if side == pusher {
		return &m.push
	}
	return &m.pop
}

func (m *record) under() string {
	under := ""
	if m.push.under {
		under += "in "
	}
	if m.pop.under {
		under += "out "
	}
	return under
}

func (m *record) cells() []int {
	round := 2 * len(m.slots)
	return slices.Concat([]int{m.out % round, m.in % round}, slices.Concat(m.slots...))
}

func (m *record) beginPush(l []int) api.Errno {
	if len(l) != m.words || slices.ContainsFunc(l, func(v int) bool { return v < 0 || v > most }) {
		return api.InvalidParam
	}
	if m.push.under {
		return api.NoAction
	}
	m.push = half{under: true, list: slices.Clone(l)}
	return api.NoError
}

func (m *record) beginPop() api.Errno {
	if m.pop.under {
		return api.NoAction
	}
	m.pop = half{under: true}
	return api.NoError
}

func (m *record) drop(side bool) bool {
	h := m.side(side)
	was := h.under
	*h = half{}
	return was
}

func (m *record) reset() { *m = *newRecord(len(m.slots), m.words) }

func (m *record) step(side bool) ([]int, bool, api.Errno) {
	h := m.side(side)
	if !h.under {
		return nil, false, api.NoAction
	}
	h.made++
	switch {
	case h.made == 1:
		h.held = m.in - m.out
	case h.made == 2 && m.refuses(side):
		m.drop(side)
		return nil, true, api.NotAvailable
	case h.made == 2:
	case h.made < m.words+3:
		m.word(side, h.made-3)
	default:
		return m.end(side), true, api.NoError
	}
	return nil, false, api.NoError
}

// refuses tells whether that side's is refused.
func (m *record) refuses(side bool) bool {
	if side == pusher {
		return m.push.held == len(m.slots)
	}
	return m.pop.held == 0
}

// word makes the access of a word.
func (m *record) word(side bool, i int) {
	if side == pusher {
		m.slots[m.in%len(m.slots)][i] = m.push.list[i]
	} else {
		m.pop.list = append(m.pop.list, m.slots[m.out%len(m.slots)][i])
	}
}

// end makes the last access, and tells what is popped.
func (m *record) end(side bool) []int {
	list := m.side(side).list
	m.drop(side)
	if side == pusher {
		m.in++
		return nil
	}
	m.out++
	return list
}

// pair is a ring, and the record of what it is to be: each call is made of both, and fails if they answer otherwise or are otherwise then.
type pair struct {
	t *testing.T
	r *ring.Ring
	m *record
}

func newPair(t *testing.T, places, words int) pair {
	p := pair{t, ring.New(places, words), newRecord(places, words)}
	p.same()
	return p
}

func (p pair) same() {
	p.t.Helper()
	is(p.t, "beside a record", p.r, p.m.under(), p.m.in-p.m.out, p.m.cells()...)
	if p.r.Places() != len(p.m.slots) || p.r.Words() != p.m.words {
		p.t.Errorf("%d places, %d words, not %d, %d", p.r.Places(), p.r.Words(), len(p.m.slots), p.m.words)
	}
}

func (p pair) push(l []int) {
	p.t.Helper()
	if got, want := p.r.Push(l), p.m.beginPush(l); got != want {
		p.t.Fatalf("Push(%v): %v, not %v", l, got, want)
	}
	p.same()
}

func (p pair) pop() {
	p.t.Helper()
	if got, want := p.r.Pop(), p.m.beginPop(); got != want {
		p.t.Fatalf("Pop: %v, not %v", got, want)
	}
	p.same()
}

// begin begins that side's next one.
func (p pair) begin(side bool, n int) {
	p.t.Helper()
	if side == pusher {
		p.push(message(n, p.m.words))
	} else {
		p.pop()
	}
}

// step makes an access, and tells whether it is over.
func (p pair) step(side bool) bool {
	p.t.Helper()
	l, over, e := p.r.Step(side)
	wantL, wantOver, wantE := p.m.step(side)
	if !slices.Equal(l, wantL) || over != wantOver || e != wantE {
		p.t.Fatalf("Step(%v) = %v, %v, %v, not %v, %v, %v", side, l, over, e, wantL, wantOver, wantE)
	}
	p.same()
	return over
}

func (p pair) drop(side bool) {
	p.t.Helper()
	if got, want := p.r.Drop(side), p.m.drop(side); got != want {
		p.t.Fatalf("Drop(%v) = %v", side, got)
	}
	p.same()
}

func (p pair) reset() {
	p.t.Helper()
	p.r.Reset()
	p.m.reset()
	p.same()
}

// all makes all accesses of that side's next one.
func (p pair) all(side bool, n int) {
	p.t.Helper()
	p.begin(side, n)
	for !p.step(side) {
	}
}

// turned is a pair whose head is so far on, and which holds so many.
func turned(t *testing.T, places, words, head, held int) pair {
	t.Helper()
	p := newPair(t, places, words)
	for n := range head {
		p.all(pusher, n)
		p.all(popper, n)
	}
	for n := range held {
		p.all(pusher, head+n)
	}
	return p
}

// fromEach calls what takes a ring of that size from each head on, with each number of messages.
func fromEach(places int, call func(head, held int)) {
	for head := range 2 * places {
		for held := range places + 1 {
			call(head, held)
		}
	}
}

func TestAllAccessesFromEachHead(t *testing.T) {
	t.Parallel()
	for places := 1; places <= 8; places++ {
		for words := 1; words <= 6; words++ {
			fromEach(places, func(head, held int) {
				p := turned(t, places, words, head, held)
				p.all(pusher, 50)
				p.all(popper, 0)
				p.all(popper, 0)
				p.all(pusher, 51)
			})
		}
	}
}

func TestDropAndWhatIsNext(t *testing.T) {
	t.Parallel()
	for _, places := range []int{1, 2, 3} {
		for _, words := range []int{1, 2, 6} {
			fromEach(places, func(head, held int) {
				for made := range 2 * (words + 4) {
					for _, next := range []string{"i", "o", "io", "oi", "ii", "oo", "ioio", "oooiiiooo"} {
						p := turned(t, places, words, head, held)
						side := made%2 == 0
						p.begin(side, 50)
						for range made / 2 {
							p.step(side)
						}
						p.drop(side)
						for n, who := range next {
							p.all(who == 'i', 60+n)
						}
					}
				}
			})
		}
	}
}

func TestEachRowBesideARecord(t *testing.T) {
	t.Parallel()
	for _, places := range []int{1, 2} {
		for _, words := range []int{1, 2} {
			for row := range rows(8, 8) {
				p, n := newPair(t, places, words), 0
				for _, side := range row {
					if !p.m.side(side).under {
						n++
						p.begin(side, n)
					}
					p.step(side)
				}
			}
		}
	}
}

// drawnList is one to push, now and then one that is refused.
func drawnList(random *rand.Rand, words int) []int {
	ends := append(wrong(), 0, 1, 2, most-1, most)
	l := make([]int, words)
	for i := range l {
		l[i] = random.IntN(most)
	}
	switch random.IntN(8) {
	case 0:
		l = l[1:]
	case 1:
		l = append(l, 1)
	case 2:
		l[random.IntN(words)] = ends[random.IntN(len(ends))]
	}
	return l
}

func TestWhateverRow(t *testing.T) {
	t.Parallel()
	random := rand.New(rand.NewPCG(7, 8))
	for range 600 {
		p := newPair(t, 1+random.IntN(8), 1+random.IntN(6))
		// One side is ahead of the other one in most rows: the ring is full, or has none, now and then.
		pushes := 1 + random.IntN(9)
		for range 300 {
			side := random.IntN(10) < pushes
			switch random.IntN(60) {
			case 0:
				p.drop(side)
			case 1:
				if random.IntN(8) == 0 {
					p.reset()
				}
			case 2, 3, 4, 5, 6, 7, 8, 9, 10:
				p.pop()
			case 11, 12, 13, 14, 15, 16, 17, 18, 19:
				p.push(drawnList(random, p.m.words))
			default:
				p.step(side)
			}
		}
	}
}
