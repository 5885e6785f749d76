package lane_test

import (
	"slices"
	"testing"

	"empennage/api"
	"empennage/lane"
)

// spoil turns all that can be turned of the messages: what stands behind their words, too.
func spoil(list []api.Message) {
	for i := range list {
		words := list[i].Words
		for j := range words {
			words[j] = -777
		}
		_ = append(words, -778)
		list[i] = api.Message{Words: []int{-779}, Lane: -780, Stamp: -781, Late: -782, Seq: -783}
	}
	_ = append(list, api.Message{Lane: -784})
}

// held is an answer, and what it is to be still.
type held struct {
	what string
	list []api.Message
	want []api.Message
}

// holds is all that may be asked of the lanes and takes nothing out.
func (x look) holds() []held {
	x.t.Helper()
	var l []held
	hold := func(what string, list []api.Message) { l = append(l, held{what, list, copied(list)}) }
	for range 2 {
		hold("All", x.l.All())
		for i := range x.lanes {
			hold("Of", x.l.Of(i))
		}
		if m, is := x.l.Peek(); is {
			hold("Peek", []api.Message{m})
		}
	}
	return l
}

// spoilEach turns one of the answers behind the other, and fails if another one turns with it.
func (x look) spoilEach(l []held) {
	x.t.Helper()
	for i := range l {
		spoil(l[i].list)
		for _, other := range l[i+1:] {
			x.list(other.what+" behind a turned "+l[i].what, other.list, other.want)
		}
	}
}

// wide is a message of so many words, which have room behind them.
func wide(lane, words int) api.Message {
	m := message(lane, 10*lane+words)
	m.Words = slices.Grow(slices.Repeat([]int{words}, words), 5)
	return m
}

func TestPutNeitherChangesNorKeepsItsMessage(t *testing.T) {
	for words := range 6 {
		for i := range 3 {
			m := wide(i, words)
			behind := m.Words[:words+5]
			for j := range behind[words:] {
				behind[words+j] = 40 + j
			}
			want, all := copied([]api.Message{m})[0], slices.Clone(behind)
			x := made(t, 3, 1).puts(m)
			x.put(m, api.ErrFull)
			x.is(want)
			x.l.Sweep(0)
			if !alike([]api.Message{m}, []api.Message{want}) || !slices.Equal(behind, all) {
				t.Errorf("what was put turned: %+v, %v", m, behind)
			}
			for j := range behind {
				behind[j] = -9
			}
			x.is(want)
			x.take(want)
			x.puts(want)
			spoil([]api.Message{m})
			x.list("Flush", x.l.Flush(), []api.Message{want})
		}
	}
}

func TestWhatWasPutTwiceIsKeptTwice(t *testing.T) {
	m := wide(0, 3)
	want := copied([]api.Message{m})[0]
	x := made(t, 1, 3).puts(m, m, m)
	got, _ := x.l.Take()
	spoil([]api.Message{got})
	x.is(want, want)
	spoil(x.l.Sweep(want.Late - 1))
	spoil(x.l.All())
	x.is(want, want)
	list := x.l.Flush()
	spoil(list[:1:1])
	x.list("the other one", list[1:], []api.Message{want})
}

func TestOneMemoryOfManyMessagesIsPutApart(t *testing.T) {
	// The words of all that are put lie behind one another.
	words := []int{1, 2, 3, 4, 5, 6}
	x := made(t, 2, 3)
	for i := range 3 {
		x.puts(api.Message{Words: words[2*i : 2*i+2], Lane: 1, Late: 9, Seq: i})
	}
	for _, m := range x.l.All() {
		spoil([]api.Message{m})
	}
	if !slices.Equal(words, []int{1, 2, 3, 4, 5, 6}) {
		t.Errorf("what was put turned: %v", words)
	}
	var all []api.Message
	for i := range 3 {
		all = append(all, api.Message{Words: []int{2*i + 1, 2*i + 2}, Lane: 1, Late: 9, Seq: i})
	}
	clear(words)
	x.is(all...)
}

func TestAnswersShareNoMemory(t *testing.T) {
	for words := range 5 {
		x := made(t, 3, 3)
		var all []api.Message
		for i := range 3 {
			for n := range 3 {
				m := wide(i, words)
				m.Late = 50 + n%2
				all = append(all, m)
			}
		}
		x.puts(all...)
		all = copied(all)
		x.spoilEach(x.holds())
		x.is(all...)
		l := x.holds()
		add := func(what string, list []api.Message) { l = append(l, held{what, list, copied(list)}) }
		for range 2 {
			m, _ := x.l.Take()
			add("Take", []api.Message{m})
		}
		all = all[2:]
		l = append(l, x.holds()...)
		gone, stay := parted(all, 50)
		add("Sweep", x.l.Sweep(50))
		x.list("Sweep", l[len(l)-1].list, gone)
		x.is(stay...)
		l = append(l, x.holds()...)
		// What went has left room: what comes there is in no answer.
		x.puts(message(0, 80), message(2, 81))
		stay = append(append([]api.Message{message(0, 80)}, stay...), message(2, 81))
		x.is(stay...)
		l = append(l, x.holds()...)
		for _, h := range l {
			x.list(h.what+" behind other calls", h.list, h.want)
		}
		x.spoilEach(l)
		x.is(stay...)
		add("Flush", x.l.Flush())
		x.list("Flush", l[len(l)-1].list, stay)
		spoil(l[len(l)-1].list)
		x.puts(stay...)
		x.is(stay...)
	}
}

func TestMessagesOfOneAnswerShareNoMemory(t *testing.T) {
	// Each in its turn is turned, and the others are to be as they were.
	for _, words := range []int{0, 1, 3, 4} {
		for turned := range 4 {
			for _, answer := range []func(l *lane.Lanes) []api.Message{
				(*lane.Lanes).All,
				(*lane.Lanes).Flush,
				func(l *lane.Lanes) []api.Message { return l.Of(1) },
				func(l *lane.Lanes) []api.Message { return l.Sweep(1 << 40) },
			} {
				x := made(t, 2, 4)
				for range 4 {
					x.puts(wide(1, words))
				}
				list := answer(x.l)
				want := copied(list)
				spoil(list[turned : turned+1 : turned+1])
				x.list("ahead of the one that was turned", list[:turned], want[:turned])
				x.list("behind the one that was turned", list[turned+1:], want[turned+1:])
			}
		}
	}
}
