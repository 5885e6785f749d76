package cell_test

import (
	"math"
	"math/rand/v2"
	"slices"
	"strconv"
	"testing"

	"empennage/api"
	"empennage/cell"
)

// numbered is a memory whose cells have 10, 11, .., by as many accesses.
func numbered(t *testing.T, cells int) *cell.Mem {
	t.Helper()
	m := cell.New(cells)
	for i := range cells {
		if e := m.Write(i, 10+i); e != api.NoError {
			t.Fatalf("Write(%d, %d): %v", i, 10+i, e)
		}
	}
	return m
}

// is fails unless the memory has these words, by so many accesses.
func is(t *testing.T, what string, m *cell.Mem, count int, words ...int) {
	t.Helper()
	if got := m.All(); !slices.Equal(got, words) {
		t.Errorf("%s: all words are %v, not %v", what, got, words)
	}
	if got := m.Count(); got != count {
		t.Errorf("%s: %d accesses, not %d", what, got, count)
	}
	if got := m.Len(); got != len(words) {
		t.Errorf("%s: %d cells, not %d", what, got, len(words))
	}
}

// away are numbers at which a memory of so many cells has none.
func away(cells int) []int {
	return []int{-1, -2, math.MinInt, math.MinInt + 1, cells, cells + 1, api.MaxCells, math.MaxInt - 1, math.MaxInt}
}

// wrong are numbers that are no words.
func wrong() []int {
	return []int{-1, -2, math.MinInt, -api.MaxWord, 1 << 31, 1<<31 + 1, 1 << 32, math.MaxInt}
}

// P2.1 is asked by the tests from here on, P2.2 by the last three.

func TestNew(t *testing.T) {
	for _, x := range [][2]int{
		{0, 0}, {1, 1}, {2, 2}, {4095, 4095}, {4096, 4096},
		{-1, 0}, {-4096, 0}, {math.MinInt, 0},
		{4097, 4096}, {1 << 31, 4096}, {math.MaxInt, 4096},
	} {
		what := "New(" + strconv.Itoa(x[0]) + ")"
		is(t, what, cell.New(x[0]), 0, make([]int, x[1])...)
	}
}

func TestExample(t *testing.T) {
	m := cell.New(3)
	if e := m.Write(2, 7); e != api.NoError {
		t.Errorf("Write(2, 7): %v", e)
	}
	if v, e := m.Swap(2, 9); v != 7 || e != api.NoError {
		t.Errorf("Swap(2, 9) = %d, %v", v, e)
	}
	if v, e := m.Read(2); v != 9 || e != api.NoError {
		t.Errorf("Read(2) = %d, %v", v, e)
	}
	is(t, "the example", m, 3, 0, 0, 9)
}

func TestFirstAndLastCell(t *testing.T) {
	for _, cells := range []int{1, 2, 3, 4096} {
		for _, i := range []int{0, cells - 1} {
			m := cell.New(cells)
			if v, e := m.Read(i); v != 0 || e != api.NoError {
				t.Errorf("%d cells: Read(%d) = %d, %v", cells, i, v, e)
			}
			if e := m.Write(i, 5); e != api.NoError {
				t.Errorf("%d cells: Write(%d, 5): %v", cells, i, e)
			}
			if v, e := m.Swap(i, 6); v != 5 || e != api.NoError {
				t.Errorf("%d cells: Swap(%d, 6) = %d, %v", cells, i, v, e)
			}
			if v, e := m.Read(i); v != 6 || e != api.NoError {
				t.Errorf("%d cells: Read(%d) = %d, %v", cells, i, v, e)
			}
			words := make([]int, cells)
			words[i] = 6
			is(t, strconv.Itoa(cells)+" cells", m, 4, words...)
		}
	}
}

func TestCellsThatAreNotThere(t *testing.T) {
	for _, cells := range []int{0, 1, 3} {
		m := numbered(t, cells)
		words := m.All()
		for _, i := range away(cells) {
			if v, e := m.Read(i); v != 0 || e != api.ErrRange {
				t.Errorf("%d cells: Read(%d) = %d, %v", cells, i, v, e)
			}
			// A word that may not be is told behind a cell that is not there.
			for _, v := range append(wrong(), 0, 5, api.MaxWord) {
				if e := m.Write(i, v); e != api.ErrRange {
					t.Errorf("%d cells: Write(%d, %d): %v", cells, i, v, e)
				}
				if was, e := m.Swap(i, v); was != 0 || e != api.ErrRange {
					t.Errorf("%d cells: Swap(%d, %d) = %d, %v", cells, i, v, was, e)
				}
			}
		}
		is(t, "behind what was refused", m, cells, words...)
	}
}

func TestWordsThatMayBe(t *testing.T) {
	for _, v := range []int{0, 1, 255, 1 << 16, 1 << 30, 1<<31 - 2, 1<<31 - 1} {
		m := numbered(t, 3)
		if e := m.Write(0, v); e != api.NoError {
			t.Errorf("Write(0, %d): %v", v, e)
		}
		if was, e := m.Swap(2, v); was != 12 || e != api.NoError {
			t.Errorf("Swap(2, %d) = %d, %v", v, was, e)
		}
		if was, e := m.Swap(2, v); was != v || e != api.NoError {
			t.Errorf("Swap(2, %d) = %d, %v", v, was, e)
		}
		is(t, "words that may be", m, 6, v, 11, v)
	}
}

func TestWordsThatMayNotBe(t *testing.T) {
	m := numbered(t, 3)
	for _, v := range wrong() {
		for i := range 3 {
			if e := m.Write(i, v); e != api.InvalidParam {
				t.Errorf("Write(%d, %d): %v", i, v, e)
			}
			if was, e := m.Swap(i, v); was != 0 || e != api.InvalidParam {
				t.Errorf("Swap(%d, %d) = %d, %v", i, v, was, e)
			}
		}
	}
	is(t, "behind what was refused", m, 3, 10, 11, 12)
}

func TestAccessesAloneAreCounted(t *testing.T) {
	m := cell.New(2)
	for i, access := range []func() api.Errno{
		func() api.Errno { _, e := m.Read(0); return e },
		func() api.Errno { return m.Write(1, 4) },
		func() api.Errno { _, e := m.Swap(1, 5); return e },
		func() api.Errno { return m.Write(1, 5) },
		func() api.Errno { _, e := m.Read(1); return e },
	} {
		if e := access(); e != api.NoError {
			t.Errorf("access %d: %v", i, e)
		}
		for range 2 {
			m.Len()
			m.All()
			if got := m.Count(); got != i+1 {
				t.Errorf("%d accesses, not %d", got, i+1)
			}
		}
	}
	m.Reset(0, 2)
	is(t, "behind Reset", m, 5, 0, 0)
}

func TestReset(t *testing.T) {
	for _, x := range []struct {
		from, n int
		words   []int
	}{
		{0, 0, []int{10, 11, 12, 13}},
		{2, 0, []int{10, 11, 12, 13}},
		{4, 0, []int{10, 11, 12, 13}},
		{0, 1, []int{0, 11, 12, 13}},
		{3, 1, []int{10, 11, 12, 0}},
		{1, 2, []int{10, 0, 0, 13}},
		{0, 3, []int{0, 0, 0, 13}},
		{1, 3, []int{10, 0, 0, 0}},
		{0, 4, []int{0, 0, 0, 0}},
	} {
		m := numbered(t, 4)
		for range 2 {
			if e := m.Reset(x.from, x.n); e != api.NoError {
				t.Errorf("Reset(%d, %d): %v", x.from, x.n, e)
			}
			is(t, "behind Reset", m, 4, x.words...)
		}
	}
}

func TestResetThatIsRefused(t *testing.T) {
	const least, most = math.MinInt, math.MaxInt
	m := numbered(t, 4)
	for _, x := range [][2]int{
		{0, 5}, {1, 4}, {3, 2}, {4, 1}, {5, 1}, {9, 3}, {-1, 1}, {-1, 2}, {-4, 4}, {-1, 5}, {-2, 9},
		{0, -1}, {2, -1}, {4, -1}, {5, -1}, {4, -4}, {8, -4}, {-1, -1}, {2, least}, {0, least},
		// Of none, but from a place that the memory has not.
		{5, 0}, {-1, 0}, {most, 0}, {least, 0},
		// The sum is no int, and runs over to one that would do.
		{most, 1}, {1, most}, {2, most}, {4, most}, {most, most}, {most, 5}, {most - 1, 4},
		{least, -1}, {least, least}, {-1, least}, {least, most}, {most, least}, {0, most}, {most, -most}, {-most, most},
	} {
		if e := m.Reset(x[0], x[1]); e != api.ErrRange {
			t.Errorf("Reset(%d, %d): %v", x[0], x[1], e)
		}
		is(t, "behind what was refused", m, 4, 10, 11, 12, 13)
	}
	if e := cell.New(0).Reset(0, 0); e != api.NoError {
		t.Errorf("no cells: Reset(0, 0): %v", e)
	}
	if e := cell.New(0).Reset(0, 1); e != api.ErrRange {
		t.Errorf("no cells: Reset(0, 1): %v", e)
	}
}

func TestAllIsNewMemory(t *testing.T) {
	m := numbered(t, 3)
	a, b := m.All(), m.All()
	for i := range a {
		a[i] = 99
	}
	_ = append(a, 98)
	if !slices.Equal(b, []int{10, 11, 12}) {
		t.Errorf("another list turned: %v", b)
	}
	is(t, "behind a list that was turned", m, 3, 10, 11, 12)
	m.Write(1, 50)
	m.Swap(2, 60)
	m.Reset(0, 1)
	if !slices.Equal(a, []int{99, 99, 99}) || !slices.Equal(b, []int{10, 11, 12}) {
		t.Errorf("lists turned with the memory: %v, %v", a, b)
	}
}

func TestWhy(t *testing.T) {
	texts := []string{
		"", "no action", "not available", "invalid param", "invalid config", "invalid mode",
		"timed out", "range", "form", "short", "full", "empty",
	}
	cells := map[int]string{
		0: "0", 7: "7", 4095: "4095", 4096: "4096", -1: "-1", -40: "-40",
		math.MinInt: "-9223372036854775808", math.MaxInt: "9223372036854775807",
	}
	for i, digits := range cells {
		for e, text := range texts {
			want := text + " at " + digits
			if e == 0 {
				want = ""
			}
			if got := cell.Why(api.Errno(e), i); got != want {
				t.Errorf("Why(%d, %d) = %q, not %q", e, i, got, want)
			}
		}
		for _, e := range []api.Errno{-1, 12, 99, math.MinInt, math.MaxInt} {
			if got, want := cell.Why(e, i), "unknown at "+digits; got != want {
				t.Errorf("Why(%d, %d) = %q, not %q", e, i, got, want)
			}
		}
	}
}

func TestNil(t *testing.T) {
	var m *cell.Mem
	for _, i := range append(away(0), 0, 1) {
		if v, e := m.Read(i); v != 0 || e != api.ErrRange {
			t.Errorf("nil: Read(%d) = %d, %v", i, v, e)
		}
		for _, v := range append(wrong(), 0, 1, api.MaxWord) {
			if e := m.Write(i, v); e != api.ErrRange {
				t.Errorf("nil: Write(%d, %d): %v", i, v, e)
			}
			if was, e := m.Swap(i, v); was != 0 || e != api.ErrRange {
				t.Errorf("nil: Swap(%d, %d) = %d, %v", i, v, was, e)
			}
			if e := m.Reset(i, v); e != api.ErrRange {
				t.Errorf("nil: Reset(%d, %d): %v", i, v, e)
			}
		}
	}
	is(t, "nil", m, 0)
}

// record is what a memory is to have, by what was put last: cells that are not in it have 0.
type record struct {
	cells, count int
	put          map[int]int
}

func (r *record) has(i int) bool { return 0 <= i && i < r.cells }

func (r *record) words() []int {
	var l []int
	for i := range r.cells {
		l = append(l, r.put[i])
	}
	return l
}

func (r *record) swap(i, v int) (int, api.Errno) {
	if !r.has(i) {
		return 0, api.ErrRange
	}
	if v < 0 || v >= 1<<31 {
		return 0, api.InvalidParam
	}
	was := r.put[i]
	r.put[i] = v
	r.count++
	return was, api.NoError
}

func (r *record) read(i int) (int, api.Errno) {
	if !r.has(i) {
		return 0, api.ErrRange
	}
	r.count++
	return r.put[i], api.NoError
}

func (r *record) reset(from, n int) api.Errno {
	if n < 0 || from < 0 || from+n > r.cells {
		return api.ErrRange
	}
	for i := from; i < from+n; i++ {
		delete(r.put, i)
	}
	return api.NoError
}

// same makes one call of both, and fails if they answer otherwise.
func same(t *testing.T, m *cell.Mem, r *record, call, i, v int) {
	t.Helper()
	var got, want int
	var gotE, wantE api.Errno
	switch call {
	case 0:
		got, gotE = m.Read(i)
		want, wantE = r.read(i)
	case 1:
		gotE = m.Write(i, v)
		_, wantE = r.swap(i, v)
	case 2:
		got, gotE = m.Swap(i, v)
		want, wantE = r.swap(i, v)
	case 3:
		gotE = m.Reset(i, v)
		wantE = r.reset(i, v)
	}
	if got != want || gotE != wantE {
		t.Fatalf("call %d of %d, %d: %d, %v, not %d, %v", call, i, v, got, gotE, want, wantE)
	}
	is(t, "behind a call", m, r.count, r.words()...)
}

func TestWhateverRow(t *testing.T) {
	random := rand.New(rand.NewPCG(3, 4))
	words := append(wrong(), 0, 1, 2, 3, 4, 1<<31-2, 1<<31-1)
	for range 300 {
		cells := random.IntN(9)
		m, r := cell.New(cells), &record{cells: cells, put: map[int]int{}}
		for range 60 {
			call, i := random.IntN(4), random.IntN(cells+2)-1
			v := words[random.IntN(len(words))]
			if call == 3 {
				v = random.IntN(cells+3) - 1
			}
			same(t, m, r, call, i, v)
		}
	}
}

func TestEachShortRow(t *testing.T) {
	// Each call is one of these, by call, cell and word (or how many): all rows of four of them.
	calls := [][3]int{
		{0, 0, 0}, {0, 1, 0}, {1, 0, 1}, {1, 1, 2}, {2, 0, 3}, {2, 1, 4},
		{3, 0, 1}, {3, 1, 1}, {3, 0, 2}, {1, 2, 5}, {2, 0, -1},
	}
	n := len(calls)
	for row := range n * n * n * n {
		m, r := cell.New(2), &record{cells: 2, put: map[int]int{}}
		for range 4 {
			x := calls[row%n]
			same(t, m, r, x[0], x[1], x[2])
			row /= n
		}
	}
}

func TestMemoriesShareNothing(t *testing.T) {
	const cells = 4096
	a, b := cell.New(cells), cell.New(cells)
	for i := range cells {
		a.Write(i, i)
	}
	for i := range cells {
		if v, e := b.Swap(i, 2*i+1); v != 0 || e != api.NoError {
			t.Fatalf("Swap(%d, %d) = %d, %v", i, 2*i+1, v, e)
		}
	}
	for i := range cells {
		if v, e := a.Read(i); v != i || e != api.NoError {
			t.Fatalf("Read(%d) = %d, %v", i, v, e)
		}
		if v, e := b.Read(i); v != 2*i+1 || e != api.NoError {
			t.Fatalf("the other one's Read(%d) = %d, %v", i, v, e)
		}
	}
	if a.Count() != 2*cells || b.Count() != 2*cells {
		t.Errorf("%d and %d accesses", a.Count(), b.Count())
	}
}
