package ring_test

import (
	"iter"
	"math/rand/v2"
	"slices"
	"testing"

	"empennage/api"
	"empennage/ring"
)

// P8.2 and P8.3 are asked by the tests of this file.

// rows are all rows of so many that are the pusher's and so many that are the popper's.
func rows(pushes, pops int) iter.Seq[[]bool] {
	return func(yield func([]bool) bool) {
		row := make([]bool, 0, pushes+pops)
		var grow func(in, out int) bool
		grow = func(in, out int) bool {
			if in+out == 0 {
				return yield(row)
			}
			end := len(row)
			if in > 0 {
				row = append(row[:end], pusher)
				if !grow(in-1, out) {
					return false
				}
			}
			if out > 0 {
				row = append(row[:end], popper)
				return grow(in, out-1)
			}
			return true
		}
		grow(pushes, pops)
	}
}

// end is what a watch knows of a side.
type end struct {
	first bool // its next access is the first one
	held  int  // how many the ring held when that was made
	over  int  // how many were over, those that were refused among them
}

// watch holds what a ring tells against what was pushed and popped.
type watch struct {
	t       *testing.T
	r       *ring.Ring
	words   int
	begun   int   // the last push that was begun
	inside  []int // the pushes that were over, and were not popped yet, as they came
	in, out end
}

func newWatch(t *testing.T, places, words int) *watch {
	return &watch{t: t, r: ring.New(places, words), words: words}
}

// watched is one of a ring whose head is so far on, and which holds so many.
func watched(t *testing.T, places, words, head, held int) *watch {
	w := newWatch(t, places, words)
	for range head {
		w.all(pusher)
		w.all(popper)
	}
	for range held {
		w.all(pusher)
	}
	return w
}

func (w *watch) end(side bool) *end {
	if side == pusher {
		return &w.in
	}
	return &w.out
}

// begin begins that side's next one, if none is under way.
func (w *watch) begin(side bool) {
	if w.r.Busy(side) {
		return
	}
	if side == pusher {
		w.begun++
	}
	w.end(side).first = true
	begin(w.t, w.r, side, message(w.begun, w.words))
	w.holds()
}

// step makes that side's next access, and tells whether it is over.
func (w *watch) step(side bool) bool {
	w.begin(side)
	if u := w.end(side); u.first {
		u.first, u.held = false, len(w.inside)
	}
	l, over, e := w.r.Step(side)
	switch {
	case over && e == api.NotAvailable:
		w.mayBeRefused(side)
	case over && side == popper:
		w.popped(l)
	case over:
		w.inside = append(w.inside, w.begun)
	case e != api.NoError:
		w.t.Fatalf("Step(%v): %v", side, e)
	}
	if len(l) > 0 && (side == pusher || !over || e != api.NoError) {
		w.t.Fatalf("Step(%v) tells %v", side, l)
	}
	if over {
		w.end(side).over++
	}
	w.holds()
	return over
}

// popped fails unless this is the message that was pushed first of those inside.
func (w *watch) popped(l []int) {
	if len(w.inside) == 0 {
		w.t.Fatalf("a pop tells %v, but none is inside", l)
	}
	if want := message(w.inside[0], w.words); !slices.Equal(l, want) {
		w.t.Fatalf("a pop tells %v, not %v", l, want)
	}
	w.inside = w.inside[1:]
}

// mayBeRefused fails unless the ring was full, or had none, at the first access of what is refused (P8.3).
func (w *watch) mayBeRefused(side bool) {
	held, edge := w.end(side).held, 0
	if side == pusher {
		edge = w.r.Places()
	}
	if held != edge {
		w.t.Fatalf("one (%v) is refused, but the ring held %d", side, held)
	}
}

// holds fails unless the ring holds those inside, and no more than there are places.
func (w *watch) holds() {
	if n := w.r.Count(); n != len(w.inside) || n > w.r.Places() {
		w.t.Fatalf("the ring of %d places holds %d, and %v are inside", w.r.Places(), n, w.inside)
	}
}

// drop drops what that side has under way.
func (w *watch) drop(side bool) {
	w.r.Drop(side)
	w.holds()
}

// all makes all accesses of that side's next one.
func (w *watch) all(side bool) {
	for !w.step(side) {
	}
}

// ends pops all that is inside, and one more, behind what is under way.
func (w *watch) ends() {
	for _, side := range []bool{pusher, popper} {
		if w.r.Busy(side) {
			w.all(side)
		}
	}
	for range len(w.inside) + 1 {
		w.all(popper)
	}
	if len(w.inside) != 0 {
		w.t.Fatalf("%v were not popped", w.inside)
	}
}

func TestEachRow(t *testing.T) {
	for _, x := range []struct{ places, words, pushes, pops int }{
		{1, 1, 10, 10}, {1, 2, 10, 10}, {2, 1, 12, 8}, {2, 1, 8, 12}, {2, 2, 12, 7}, {2, 2, 7, 12},
	} {
		t.Run("", func(t *testing.T) {
			t.Parallel()
			for row := range rows(x.pushes, x.pops) {
				w := newWatch(t, x.places, x.words)
				for _, side := range row {
					w.step(side)
				}
				w.ends()
			}
		})
	}
}

func TestEachRowFromEachHead(t *testing.T) {
	t.Parallel()
	for _, places := range []int{1, 2} {
		for _, words := range []int{1, 2} {
			fromEach(places, func(head, held int) {
				for row := range rows(words+4, words+4) {
					w := watched(t, places, words, head, held)
					for _, side := range row {
						w.step(side)
					}
					w.ends()
				}
			})
		}
	}
}

// moves makes of a side's next ones so many accesses each, and drops one then if that is fewer than all. One that is over sooner than that makes no more.
func (w *watch) moves(side bool, made []int) []func() {
	var list []func()
	for _, n := range made {
		if n == 0 {
			list = append(list, func() { w.begin(side); w.drop(side) })
		}
		over := false
		for i := range n {
			list = append(list, func() {
				over = over || w.step(side)
				if i == n-1 && !over {
					w.drop(side)
				}
			})
		}
	}
	return list
}

// eachOf goes through all rows of these pushes and pops, given by how many accesses each makes at most, of a ring that holds so many, and empties it behind each row.
func eachOf(t *testing.T, places, words, held int, pushes, pops []int) {
	t.Helper()
	w := newWatch(t, places, words)
	n, m := len(w.moves(pusher, pushes)), len(w.moves(popper, pops))
	for row := range rows(n, m) {
		w := watched(t, places, words, 0, held)
		before := w.in.over
		a, b := w.moves(pusher, pushes), w.moves(popper, pops)
		for _, side := range row {
			if side == pusher {
				a[0]()
				a = a[1:]
			} else {
				b[0]()
				b = b[1:]
			}
		}
		if all := whole(pushes, words); w.in.over-before < all {
			t.Fatalf("%d of %d pushes are over", w.in.over-before, all)
		}
		if all := whole(pops, words); w.out.over < all {
			t.Fatalf("%d of %d pops are over", w.out.over, all)
		}
		w.ends()
	}
}

// whole is how many of these make all accesses.
func whole(made []int, words int) int {
	n := 0
	for _, m := range made {
		if m == words+3 {
			n++
		}
	}
	return n
}

func TestEachRowWithADrop(t *testing.T) {
	for _, places := range []int{1, 2} {
		for _, words := range []int{1, 2} {
			t.Run("", func(t *testing.T) {
				t.Parallel()
				all := words + 3
				for held := range places + 1 {
					for made := range all {
						eachOf(t, places, words, held, []int{made, all}, []int{all})
						eachOf(t, places, words, held, []int{all}, []int{made, all})
						for other := range all {
							eachOf(t, places, words, held, []int{made}, []int{other, all})
							eachOf(t, places, words, held, []int{made, all}, []int{other})
						}
					}
				}
			})
		}
	}
}

func TestEachRowOfAccessesAndDrops(t *testing.T) {
	const length = 8
	t.Parallel()
	for _, places := range []int{1, 2} {
		for _, words := range []int{1, 2} {
			for held := range places + 1 {
				for row := range 1 << (2 * length) {
					w := watched(t, places, words, 0, held)
					for range length {
						side := row%2 == 0
						if row/2%2 == 0 {
							w.step(side)
						} else {
							w.drop(side)
						}
						row /= 4
					}
					w.ends()
				}
			}
		}
	}
}

func TestDrawnRows(t *testing.T) {
	t.Parallel()
	random := rand.New(rand.NewPCG(9, 10))
	for range 3000 {
		w := newWatch(t, 1+random.IntN(8), 1+random.IntN(6))
		pushes, drops := 1+random.IntN(9), random.IntN(12)
		for range 400 {
			side := random.IntN(10) < pushes
			if random.IntN(100) < drops {
				w.drop(side)
			} else {
				w.step(side)
			}
		}
		w.ends()
	}
}

func TestDrawnRowsOfLongRuns(t *testing.T) {
	t.Parallel()
	random := rand.New(rand.NewPCG(11, 12))
	for range 1000 {
		w := newWatch(t, 1+random.IntN(8), 1+random.IntN(6))
		for range 40 {
			// Each side makes many accesses on end, so that the ring is full, and empty, in turn.
			side := random.IntN(2) == 0
			for range random.IntN(12 * (w.words + 3)) {
				w.step(side)
			}
			if random.IntN(4) == 0 {
				w.drop(random.IntN(2) == 0)
			}
		}
		w.ends()
	}
}
