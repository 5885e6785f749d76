package lane_test

import (
	"math"
	"slices"
	"testing"

	"empennage/api"
	"empennage/lane"
)

// same fails unless Same tells so, of both ways round, and leaves both lists as they were.
func same(t *testing.T, a, b []api.Message, want bool) {
	t.Helper()
	was, and := copied(a), copied(b)
	if lane.Same(a, b) != want || lane.Same(b, a) != want {
		t.Errorf("Same(%+v, %+v): %v, %v, not %v", a, b, lane.Same(a, b), lane.Same(b, a), want)
	}
	if !alike(a, was) || !alike(b, and) {
		t.Errorf("Same turned %+v, %+v", a, b)
	}
}

// others are messages that differ from m in one field, or in one word.
func others(m api.Message) []api.Message {
	var l []api.Message
	for _, by := range []int{1, -1, 1 << 8, 1 << 16, 1 << 31, 1 << 32, 1 << 62, math.MinInt} {
		for _, field := range []func(*api.Message) *int{
			func(m *api.Message) *int { return &m.Lane },
			func(m *api.Message) *int { return &m.Stamp },
			func(m *api.Message) *int { return &m.Late },
			func(m *api.Message) *int { return &m.Seq },
		} {
			o := copied([]api.Message{m})[0]
			*field(&o) += by
			l = append(l, o)
		}
		for i := range m.Words {
			o := copied([]api.Message{m})[0]
			o.Words[i] += by
			l = append(l, o)
		}
	}
	for _, word := range []int{0, 1, -1} {
		o := m
		o.Words = append([]int{word}, m.Words...)
		p := m
		p.Words = append(slices.Clone(m.Words), word)
		l = append(l, o, p)
	}
	if len(m.Words) > 0 {
		o, p := m, m
		o.Words, p.Words = m.Words[1:], m.Words[:len(m.Words)-1]
		l = append(l, o, p)
	}
	return l
}

// samples are messages of all kinds, each another one.
func samples() []api.Message {
	return []api.Message{
		{}, {Lane: 1}, {Stamp: 1}, {Late: 1}, {Seq: 1}, {Words: []int{0}}, {Words: []int{0, 0}}, {Words: []int{1}},
		{Words: []int{1, 2, 3, 4}, Lane: 2, Stamp: 5, Late: 9, Seq: 7}, {Words: []int{2, 1, 3, 4}, Lane: 2, Stamp: 5, Late: 9, Seq: 7},
		{Words: []int{1, 2, 3, 4, 5}, Lane: 9, Stamp: -5, Late: -9, Seq: -7}, {Lane: 5, Stamp: 2, Late: 7, Seq: 9},
		{Words: []int{math.MinInt, math.MaxInt}, Lane: math.MinInt, Stamp: math.MaxInt, Late: math.MinInt, Seq: math.MaxInt},
		{Words: []int{math.MaxInt, math.MinInt}, Lane: math.MaxInt, Stamp: math.MinInt, Late: math.MaxInt, Seq: math.MinInt},
	}
}

func TestSameOfOneMessage(t *testing.T) {
	for i, m := range samples() {
		for j, n := range samples() {
			same(t, []api.Message{m}, []api.Message{n}, i == j)
		}
		for _, o := range others(m) {
			same(t, []api.Message{m}, []api.Message{o}, false)
		}
	}
}

func TestSameOfListsThatDifferAtOnePlace(t *testing.T) {
	all := samples()
	for n := range len(all) + 1 {
		same(t, all[:n], samples()[:n], true)
		for i := range n {
			for _, o := range others(all[i]) {
				list := samples()[:n]
				list[i] = o
				same(t, all[:n], list, false)
			}
		}
	}
}

func TestSameOfOtherLengths(t *testing.T) {
	all := samples()
	for n := range len(all) + 1 {
		for m := range len(all) + 1 {
			same(t, all[:n], samples()[:m], n == m)
		}
		if n > 0 {
			same(t, all[:n], samples()[1:n], false)
			same(t, all[:n], append(samples()[:n:n], api.Message{}), false)
		}
	}
	// One that stands twice is not one that stands once.
	same(t, []api.Message{{Seq: 1}, {Seq: 1}}, []api.Message{{Seq: 1}}, false)
}

func TestSameOfAnotherRow(t *testing.T) {
	a, b, c := message(0, 1), message(0, 2), message(1, 3)
	same(t, []api.Message{a, b, c}, []api.Message{a, b, c}, true)
	for _, l := range [][]api.Message{{a, c, b}, {b, a, c}, {b, c, a}, {c, a, b}, {c, b, a}} {
		same(t, []api.Message{a, b, c}, l, false)
	}
	same(t, []api.Message{a, a, b}, []api.Message{a, b, b}, false)
	same(t, []api.Message{a, a, b}, []api.Message{a, b, a}, false)
	// Words that stand in another message are not the same either.
	same(t, []api.Message{{Words: []int{1, 2}}, {Words: []int{3}}}, []api.Message{{Words: []int{1}}, {Words: []int{2, 3}}}, false)
}

func TestSameOfListsWithoutElements(t *testing.T) {
	same(t, nil, nil, true)
	same(t, nil, []api.Message{}, true)
	same(t, []api.Message{}, []api.Message{}, true)
	same(t, []api.Message{}, make([]api.Message, 0, 5), true)
	for _, m := range samples() {
		same(t, nil, []api.Message{m}, false)
		same(t, []api.Message{}, []api.Message{m}, false)
	}
	same(t, []api.Message{{Words: nil, Seq: 3}}, []api.Message{{Words: []int{}, Seq: 3}}, true)
	same(t, []api.Message{{Words: []int{}, Seq: 3}}, []api.Message{{Words: make([]int, 0, 4), Seq: 3}}, true)
	same(t, []api.Message{{Words: nil, Seq: 3}}, []api.Message{{Words: []int{}, Seq: 4}}, false)
}

func TestSameAsksNoMemory(t *testing.T) {
	words := []int{1, 2, 3}
	same(t, []api.Message{{Words: words}}, []api.Message{{Words: words}}, true)
	same(t, []api.Message{{Words: words[:2]}}, []api.Message{{Words: words[:2:2]}}, true)
	same(t, []api.Message{{Words: words}}, []api.Message{{Words: words[:2]}}, false)
	list := samples()
	same(t, list, list, true)
	same(t, list, list[:3], false)
}

func TestSameOfLanes(t *testing.T) {
	x, all := filled(t, 3, 8)
	same(t, x.l.All(), all, true)
	same(t, x.l.All(), x.l.Of(0), false)
	same(t, x.l.All()[:8], x.l.Of(0), true)
	var none *lane.Lanes
	same(t, none.All(), made(t, 1, 1).l.Flush(), true)
}

func TestClone(t *testing.T) {
	for _, m := range samples() {
		was := copied([]api.Message{m})
		if c := lane.Clone(m); !alike([]api.Message{c}, was) || !alike([]api.Message{m}, was) {
			t.Errorf("Clone(%+v) = %+v", was[0], c)
		}
	}
	for _, words := range [][]int{nil, {}, make([]int, 0, 4)} {
		m := api.Message{Words: words, Lane: 4, Stamp: 3, Late: 2, Seq: 1}
		if c := lane.Clone(m); !alike([]api.Message{c}, []api.Message{m}) {
			t.Errorf("Clone(%+v) = %+v", m, c)
		}
	}
}

func TestCloneSharesNoMemory(t *testing.T) {
	for _, n := range []int{0, 1, 2, 4, 5, 100} {
		memory := slices.Repeat([]int{6}, n+5)
		m := api.Message{Words: memory[:n], Seq: 3}
		was := copied([]api.Message{m})
		a, b := lane.Clone(m), lane.Clone(m)
		spoil([]api.Message{a})
		if !alike([]api.Message{m}, was) || !alike([]api.Message{b}, was) || memory[n] != 6 {
			t.Errorf("of %d words, turned with a clone: %+v, %+v, %v", n, m, b, memory)
		}
		spoil([]api.Message{m})
		if !alike([]api.Message{b}, was) {
			t.Errorf("of %d words, turned with the message: %+v", n, b)
		}
	}
}
