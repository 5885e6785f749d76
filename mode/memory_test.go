package mode_test

import (
	"slices"
	"testing"

	"empennage/api"
	"empennage/mode"
)

// spoil turns all that can be turned of the list: what stands behind it, too.
func spoil(list []int) {
	all := list[:cap(list)]
	for i := range all {
		// Also a mode, and an action, may be what it is turned to.
		all[i] = (all[i] + 1) % 3
	}
	_ = append(list, api.Stopped)
}

func TestTheActionsHandedInAreNotChanged(t *testing.T) {
	for n := range 7 {
		whole := []int{7, -1, api.Stop, api.Restart, 1 << 40, 3, api.Stop, 5}
		was := slices.Clone(whole)
		x := look{t, mode.New(whole[:n])}
		for p := range 5 {
			x.m.Fault(p)
			x.m.Again(p)
			x.m.Up(p)
			spoil(x.m.All())
		}
		if !slices.Equal(whole, was) {
			t.Errorf("of %d: %v was %v", n, whole, was)
		}
	}
}

func TestTheActionsHandedInAreNotKept(t *testing.T) {
	for n := range 5 {
		for list := range lists(n) {
			handed := slices.Grow(slices.Clone(list), 3)
			x, y := look{t, mode.New(handed)}, look{t, mode.New(handed)}
			spoil(handed)
			all := x.m.All()
			for p, action := range list {
				x.fault(p, action, api.NoError)
				all[p] = done(action)
				spoil(handed)
				x.is(all...)
			}
			// Nor does one of both know of the other one.
			y.is(make([]int, max(n, 1))...)
		}
	}
}

func TestWhatAllTellsIsNewMemory(t *testing.T) {
	for n := 1; n <= 4; n++ {
		for list := range lists(n) {
			x := made(t, list...)
			want := make([]int, n)
			var lists, were [][]int
			turn := func() {
				a, b := x.m.All(), x.m.All()
				spoil(a)
				x.is(want...)
				if !slices.Equal(b, want) {
					t.Errorf("of %v, behind a turned one: %v, not %v", list, b, want)
				}
				lists, were = append(lists, b), append(were, slices.Clone(want))
			}
			turn()
			for p, action := range list {
				x.fault(p, action, api.NoError)
				want[p] = done(action)
				turn()
				if action == api.Ignore {
					x.again(p, api.NoError)
					want[p] = api.Warm
					turn()
				}
				if action != api.Stop {
					x.up(p, true)
					want[p] = api.Normal
					turn()
				}
			}
			// Nor does a list turn with what comes behind it.
			for i := range lists {
				if !slices.Equal(lists[i], were[i]) {
					t.Errorf("of %v: %v was %v", list, lists[i], were[i])
				}
			}
		}
	}
}

func TestListsThatWereTurnedTurnNothingInDrawnRows(t *testing.T) {
	for list, row := range drawnRows(95) {
		handed := slices.Clone(list)
		m, r := mode.New(handed), recordOf(list)
		for i, c := range row {
			spoil(handed)
			spoil(m.All())
			asTold(t, m, r, c)
			same(t, m, r, 0, 1, 2, 3, 4)
			if t.Failed() {
				t.Fatalf("of %v the row %+v", list, row[:i+1])
			}
		}
	}
}
