package lane_test

import (
	"testing"

	"empennage/api"
	"empennage/lane"
)

// P10.2 is asked by the tests of this file, by what the lanes tell alone.

// watch holds lanes against what they let in, and what came out.
type watch struct {
	t     *testing.T
	l     *lane.Lanes
	there map[int]api.Message // what was let in, and is not out, by its Seq
	last  int                 // the Seq of what was let in last
	outs  map[int]int         // how often what has that Seq came out
}

func newWatch(t *testing.T, s size) *watch {
	return &watch{t, lane.New(s.lanes, s.places), map[int]api.Message{}, -1, map[int]int{}}
}

// call makes the call, and fails if what it tells is told out of its row, or comes out a second time.
func (w *watch) call(c call) {
	w.t.Helper()
	list, is, e := answer(w.l, c)
	switch c.kind {
	case aPut:
		w.put(c.m, e)
	case aTake:
		if is {
			w.first(list[0])
			w.out(list)
		} else if len(w.there) != 0 {
			w.t.Errorf("none is taken of %+v", w.there)
		}
	default:
		w.rising(list)
		w.out(list)
	}
	if c.kind == aFlush && len(w.there) != 0 {
		w.t.Errorf("behind a Flush there still: %+v", w.there)
	}
}

// put keeps what is let in; each one's Seq is more than those of the ones ahead of it.
func (w *watch) put(m api.Message, e api.Errno) {
	w.t.Helper()
	if e != api.NoError {
		return
	}
	if m.Seq <= w.last {
		w.t.Errorf("the row itself is wrong: %d behind %d", m.Seq, w.last)
	}
	w.last, w.there[m.Seq] = m.Seq, m
}

// ahead tells whether a goes ahead of b.
func ahead(a, b api.Message) bool { return a.Lane < b.Lane || a.Lane == b.Lane && a.Seq < b.Seq }

// first fails if one that is there goes ahead of m.
func (w *watch) first(m api.Message) {
	w.t.Helper()
	for _, other := range w.there {
		if ahead(other, m) {
			w.t.Errorf("%+v is told ahead of %+v", m, other)
		}
	}
}

// rising fails if one of the list goes ahead of one that stands ahead of it.
func (w *watch) rising(list []api.Message) {
	w.t.Helper()
	for i, m := range list {
		for _, other := range list[i+1:] {
			if !ahead(m, other) {
				w.t.Errorf("%+v is told ahead of %+v", m, other)
			}
		}
	}
}

// known fails if one of the list is none that was let in, or is out.
func (w *watch) known(list []api.Message) {
	w.t.Helper()
	for _, m := range list {
		was, is := w.there[m.Seq]
		if !is || !alike([]api.Message{m}, []api.Message{was}) {
			w.t.Errorf("%+v is told, of %+v", m, w.there)
		}
	}
}

// out counts what came out.
func (w *watch) out(list []api.Message) {
	w.t.Helper()
	w.known(list)
	for _, m := range list {
		delete(w.there, m.Seq)
		w.outs[m.Seq]++
	}
}

// asked fails if what is asked is told out of its row, or if it isn't what is there.
func (w *watch) asked() {
	w.t.Helper()
	all := w.l.All()
	w.rising(all)
	w.known(all)
	if len(all) != len(w.there) || w.l.Len() != len(all) {
		w.t.Errorf("%d are told, %d are there: Len is %d", len(all), len(w.there), w.l.Len())
	}
	if m, is := w.l.Peek(); is {
		w.first(m)
		w.known([]api.Message{m})
	}
	for i := range 3 {
		of := w.l.Of(i)
		w.rising(of)
		w.known(of)
	}
}

// once takes out what is left one by one, and fails unless all that was let in came out once.
func (w *watch) once() {
	w.t.Helper()
	for range len(w.there) {
		w.call(call{kind: aTake})
	}
	if w.l.Len() != 0 || len(w.there) != 0 {
		w.t.Errorf("%d are left, and %+v did not come out", w.l.Len(), w.there)
	}
	for seq, n := range w.outs {
		if n != 1 {
			w.t.Errorf("%d came out %d times", seq, n)
		}
	}
}

func TestEachRowComesOutInItsRowAndOnce(t *testing.T) {
	t.Parallel()
	for s, row := range few() {
		w := newWatch(t, s)
		for _, c := range row {
			w.call(c)
		}
		// Only behind the last call: a shorter row asked behind the others.
		w.asked()
		w.once()
		if t.Failed() {
			t.Fatalf("%+v: the row %+v", s, row)
		}
	}
}

func TestDrawnRowsComeOutInTheirRowAndOnce(t *testing.T) {
	t.Parallel()
	for s, row := range drawnRows(43) {
		w := newWatch(t, s)
		for i, c := range row {
			w.call(c)
			w.asked()
			if t.Failed() {
				t.Fatalf("%+v: the row %+v", s, row[:i+1])
			}
		}
		w.once()
		if t.Failed() {
			t.Fatalf("%+v: behind the row %+v", s, row)
		}
	}
}
