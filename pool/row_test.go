package pool_test

import (
	"testing"

	"empennage/api"
	"empennage/pool"
)

// P9.2 is asked by the tests of this file, by what a pool tells alone.

// watch holds a pool against which slots it told to whom.
type watch struct {
	t     *testing.T
	p     *pool.Pool
	slots int
	mine  map[int]map[int]bool // which slots each owner took, and did not give
}

func newWatch(t *testing.T, slots int) watch {
	return watch{t, pool.New(slots), slots, map[int]map[int]bool{}}
}

// of is which slots are that owner's.
func (w watch) of(owner int) map[int]bool {
	if w.mine[owner] == nil {
		w.mine[owner] = map[int]bool{}
	}
	return w.mine[owner]
}

// has tells whether that owner has that slot.
func (w watch) has(owner, slot int) bool { return w.of(owner)[slot] }

// taken is how many slots are one's.
func (w watch) taken() int {
	n := 0
	for _, l := range w.mine {
		n += len(l)
	}
	return n
}

// call makes the call, and fails if it tells a slot to a second owner, or lets one's go that another one has.
func (w watch) call(c call) {
	w.t.Helper()
	n, e := answer(w.p, c)
	switch c.kind {
	case aTake:
		w.take(c.owner, n, e)
	case aGive:
		if (e == api.NoError) != w.has(c.owner, c.slot) {
			w.t.Errorf("%v: %v, of whom has %v", c, e, w.of(c.owner))
		}
		delete(w.of(c.owner), c.slot)
	case aLet:
		if n != len(w.of(c.owner)) {
			w.t.Errorf("%v: %d, of whom has %v", c, n, w.of(c.owner))
		}
		delete(w.mine, c.owner)
	}
}

// take fails if the slot is another one's, or isn't there, or if none was told while one is free.
func (w watch) take(owner, slot int, e api.Errno) {
	w.t.Helper()
	if e != api.NoError {
		if w.taken() != w.slots {
			w.t.Errorf("none is told to %d: %v, of %v", owner, e, w.mine)
		}
		return
	}
	for other := range w.mine {
		if w.has(other, slot) {
			w.t.Errorf("the slot %d of %d is told to %d", slot, other, owner)
		}
	}
	if slot < 0 || slot >= w.slots {
		w.t.Errorf("the slot %d is told to %d", slot, owner)
	}
	w.of(owner)[slot] = true
}

// apart fails if a slot is two owners', or if there aren't as many free and taken as there are.
func (w watch) apart() {
	w.t.Helper()
	whose := map[int]int{}
	for owner := range w.mine {
		for _, slot := range w.p.Of(owner) {
			if other, is := whose[slot]; is {
				w.t.Errorf("the slot %d is %d's, and %d's", slot, owner, other)
			}
			whose[slot] = owner
			if !w.has(owner, slot) {
				w.t.Errorf("the slot %d is %d's, who has %v", slot, owner, w.of(owner))
			}
		}
	}
	if len(whose) != w.taken() || w.p.Free()+len(whose) != w.slots || w.p.Len() != w.slots {
		w.t.Errorf("%d slots: %d, %d taken, %d free", w.slots, w.p.Len(), len(whose), w.p.Free())
	}
	for slot := range w.slots {
		owner, is := w.p.Owner(slot)
		if of, taken := whose[slot]; is != taken || owner != of {
			w.t.Errorf("the slot %d is %d's, %v, and %d's, %v", slot, owner, is, of, taken)
		}
	}
}

func TestNoSlotIsTwoOwnersInEachRow(t *testing.T) {
	t.Parallel()
	for slots, row := range few() {
		w := newWatch(t, slots)
		for _, c := range row {
			w.call(c)
		}
		// Only behind the last call: a shorter row asked behind the others.
		w.apart()
		if t.Failed() {
			t.Fatalf("%d slots: the row %v", slots, row)
		}
	}
}

func TestNoSlotIsTwoOwnersInDrawnRows(t *testing.T) {
	t.Parallel()
	for slots, row := range drawnRows(23) {
		w := newWatch(t, slots)
		for i, c := range row {
			w.call(c)
			w.apart()
			if t.Failed() {
				t.Fatalf("%d slots: the row %v", slots, row[:i+1])
			}
		}
	}
}
