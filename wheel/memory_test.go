package wheel_test

import (
	"slices"
	"testing"
)

// spoil turns all that can be turned of the list: what stands behind it, too.
func spoil(list []int) {
	all := list[:cap(list)]
	for i := range all {
		all[i] = -777 - i
	}
	_ = append(list, -779)
}

func TestWhatKeysTellsIsNewMemory(t *testing.T) {
	for n := range 40 {
		x := made(t)
		var row []one
		for i := range n {
			row = append(row, one{3 * i, 5 + i/3})
		}
		x.sets(row...)
		a, b := x.w.Keys(), x.w.Keys()
		spoil(a)
		x.is(row...)
		if !slices.Equal(b, keysOf(row)) {
			t.Errorf("of %d, behind a turned one: %v", n, b)
		}
		// Nor does a list turn with what is set, cancelled and told behind it.
		x.sets(one{-1, 0}, one{-2, 100})
		x.cancel(-2, true)
		x.due(0, -1)
		if n > 0 {
			x.set(0, 200, true)
			row = append(row[1:], one{0, 200})
		}
		x.due(200, keysOf(row)...)
		x.sets(row...)
		for i := range n {
			if b[i] != 3*i {
				t.Errorf("of %d, behind other calls: %v", n, b)
			}
		}
	}
}

func TestWhatDueTellsIsNewMemory(t *testing.T) {
	for n := range 40 {
		for due := range n + 1 {
			x := made(t)
			var row []one
			for i := range n {
				row = append(row, one{3 * i, 5 + i})
			}
			x.sets(row...)
			keys := x.w.Keys()
			told := x.w.Due(4 + due)
			if !slices.Equal(told, keysOf(row[:due])) {
				t.Errorf("%d of %d: %v", due, n, told)
			}
			spoil(told)
			x.row(row[due:])
			if !slices.Equal(keys, keysOf(row)) {
				t.Errorf("%d of %d, behind a turned one: %v", due, n, keys)
			}
			x.due(4 + due)
			spoil(x.w.Due(4 + due))
			x.due(200, keysOf(row[due:])...)
			x.is()
		}
	}
}

func TestListsThatWereToldStayInDrawnRows(t *testing.T) {
	for row := range drawnRows(75) {
		x, r := made(t), &record{}
		var told, were [][]int
		for i, c := range row {
			keys, _ := answer(x.w, c)
			answer(r, c)
			told = append(told, x.w.Keys(), keys)
			were = append(were, slices.Clone(x.w.Keys()), slices.Clone(keys))
			if i%2 == 0 {
				// Those that are turned are told no more.
				spoil(keys)
				were[len(were)-1] = slices.Clone(keys)
			}
			x.row(r.list)
		}
		for i := range told {
			if !slices.Equal(told[i], were[i]) {
				t.Fatalf("the list %v was %v: the row %+v", told[i], were[i], row)
			}
		}
	}
}
