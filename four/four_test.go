package four_test

import (
	"iter"
	"math"
	"math/rand/v2"
	"slices"
	"strings"
	"testing"

	"empennage/api"
	"empennage/four"
)

const (
	writer = true
	reader = false
	most   = 1<<31 - 1
)

// wrong are numbers that are no words.
func wrong() []int {
	return []int{-1, -2, math.MinInt, -most, most + 1, most + 2, 1 << 32, 1<<32 + 1, math.MaxInt}
}

// message is the n-th one that is written: no two messages, and no two words of one, have a word in common. The 0-th is the first one, all 0.
func message(n, words int) []int {
	l := make([]int, words)
	for i := range l {
		if n > 0 {
			l[i] = 10*n + i + 1
		}
	}
	return l
}

// filled is so many words of that one.
func filled(n, v int) []int { return slices.Repeat([]int{v}, n) }

// begin begins a write of the list, or else a read.
func begin(t *testing.T, r *four.Register, side bool, l []int) {
	t.Helper()
	e := api.NoError
	if side == writer {
		e = r.Write(l)
	} else {
		e = r.Read()
	}
	if e != api.NoError {
		t.Fatalf("one that begins (%v), %v: %v", side, l, e)
	}
}

// step makes one access, and fails unless it tells this.
func step(t *testing.T, r *four.Register, side bool, told []int, last bool) {
	t.Helper()
	l, is, e := r.Step(side)
	if !slices.Equal(l, told) || is != last || e != api.NoError {
		t.Errorf("Step(%v) = %v, %v, %v, not %v, %v", side, l, is, e, told, last)
	}
}

// steps makes so many accesses, none of which is the last one.
func steps(t *testing.T, r *four.Register, side bool, n int) {
	t.Helper()
	for range n {
		step(t, r, side, nil, false)
	}
}

// write writes all of the list.
func write(t *testing.T, r *four.Register, l []int) {
	t.Helper()
	begin(t, r, writer, l)
	steps(t, r, writer, len(l)+3)
	step(t, r, writer, nil, true)
}

// read reads, and fails unless it tells this list.
func read(t *testing.T, r *four.Register, l []int) {
	t.Helper()
	begin(t, r, reader, nil)
	steps(t, r, reader, len(l)+2)
	step(t, r, reader, l, true)
}

// is fails unless so many accesses are left of both sides, and the memory has these words.
func is(t *testing.T, what string, r *four.Register, writes, reads int, cells ...int) {
	t.Helper()
	if w, d := r.Left(writer), r.Left(reader); w != writes || d != reads {
		t.Errorf("%s: %d and %d accesses are left, not %d and %d", what, w, d, writes, reads)
	}
	if got := r.Cells(); !slices.Equal(got, cells) {
		t.Errorf("%s: the cells are %v, not %v", what, got, cells)
	}
}

// none fails unless that side has none under way.
func none(t *testing.T, what string, r *four.Register, side bool) {
	t.Helper()
	words, cells := r.Words(), r.Cells()
	for range 2 {
		if l, last, e := r.Step(side); len(l) != 0 || last || e != api.NotAvailable {
			t.Errorf("%s: Step(%v) = %v, %v, %v", what, side, l, last, e)
		}
		if r.Drop(side) {
			t.Errorf("%s: Drop(%v) is true", what, side)
		}
		if n := r.Left(side); n != 0 {
			t.Errorf("%s: Left(%v) = %d", what, side, n)
		}
	}
	if r.Words() != words || !slices.Equal(r.Cells(), cells) {
		t.Errorf("%s: %v turned to %v", what, cells, r.Cells())
	}
}

// P6.1 is asked by the tests from here on.

func TestNew(t *testing.T) {
	for _, x := range [][2]int{
		{1, 1}, {2, 2}, {3, 3}, {4, 4}, {5, 5}, {6, 6},
		{0, 1}, {-1, 1}, {-6, 1}, {math.MinInt, 1}, {math.MinInt + 1, 1},
		{7, 6}, {8, 6}, {api.MaxCells, 6}, {1 << 32, 6}, {math.MaxInt - 1, 6}, {math.MaxInt, 6},
	} {
		r, words := four.New(x[0]), x[1]
		if got := r.Words(); got != words {
			t.Errorf("New(%d): %d words, not %d", x[0], got, words)
		}
		is(t, "a new one", r, 0, 0, make([]int, 4+4*words)...)
		none(t, "a new one", r, writer)
		none(t, "a new one", r, reader)
		read(t, r, make([]int, words))
		write(t, r, message(1, words))
		read(t, r, message(1, words))
	}
}

func TestExample(t *testing.T) {
	r := four.New(1)
	begin(t, r, writer, []int{7})
	begin(t, r, reader, nil)
	if w, d := r.Left(writer), r.Left(reader); w != 5 || d != 4 {
		t.Errorf("one word: %d and %d accesses, not 5 and 4", w, d)
	}
}

func TestEachAccessOfOneWord(t *testing.T) {
	r := four.New(1)
	begin(t, r, writer, []int{7})
	for i, cells := range [][]int{
		{0, 0, 0, 0, 0, 0, 0, 0}, // it reads reading: the pair is 1
		{0, 0, 0, 0, 0, 0, 0, 0}, // it reads slot of that: the place is 1
		{0, 0, 0, 0, 0, 0, 0, 7},
		{0, 0, 0, 1, 0, 0, 0, 7},
		{1, 0, 0, 1, 0, 0, 0, 7},
	} {
		step(t, r, writer, nil, i == 4)
		is(t, "the write", r, 4-i, 0, cells...)
	}
	none(t, "behind the write", r, writer)
	begin(t, r, reader, nil)
	for i, cells := range [][]int{
		{1, 0, 0, 1, 0, 0, 0, 7}, // it reads latest
		{1, 1, 0, 1, 0, 0, 0, 7},
		{1, 1, 0, 1, 0, 0, 0, 7}, // it reads slot of the pair
	} {
		step(t, r, reader, nil, false)
		is(t, "the read", r, 0, 3-i, cells...)
	}
	step(t, r, reader, []int{7}, true)
	is(t, "behind the read", r, 0, 0, 1, 1, 0, 1, 0, 0, 0, 7)
	none(t, "behind the read", r, reader)
	// The pairs, and the places in each, go round.
	write(t, r, []int{8})
	is(t, "behind 8", r, 0, 0, 0, 1, 1, 1, 0, 8, 0, 7)
	write(t, r, []int{9})
	is(t, "behind 9", r, 0, 0, 0, 1, 0, 1, 9, 8, 0, 7)
	read(t, r, []int{9})
	is(t, "behind a second read", r, 0, 0, 0, 0, 0, 1, 9, 8, 0, 7)
	write(t, r, []int{5})
	is(t, "behind 5", r, 0, 0, 1, 0, 0, 0, 9, 8, 5, 7)
	read(t, r, []int{5})
	is(t, "behind a third read", r, 0, 0, 1, 1, 0, 0, 9, 8, 5, 7)
}

func TestEachAccessOfThreeWords(t *testing.T) {
	r := four.New(3)
	write(t, r, []int{11, 12, 13})
	read(t, r, []int{11, 12, 13})
	is(t, "at first", r, 0, 0, 1, 1, 0, 1, 0, 0, 0, 0, 0, 0, 0, 0, 0, 11, 12, 13)
	begin(t, r, writer, []int{21, 22, 23})
	begin(t, r, reader, nil)
	is(t, "both begin", r, 7, 6, 1, 1, 0, 1, 0, 0, 0, 0, 0, 0, 0, 0, 0, 11, 12, 13)
	for i, cells := range [][]int{
		{1, 1, 0, 1, 0, 0, 0, 0, 0, 0, 0, 0, 0, 11, 12, 13},
		{1, 1, 0, 1, 0, 0, 0, 0, 0, 0, 0, 0, 0, 11, 12, 13},
		{1, 1, 0, 1, 0, 0, 0, 21, 0, 0, 0, 0, 0, 11, 12, 13},
		{1, 1, 0, 1, 0, 0, 0, 21, 22, 0, 0, 0, 0, 11, 12, 13},
		{1, 1, 0, 1, 0, 0, 0, 21, 22, 23, 0, 0, 0, 11, 12, 13},
		{1, 1, 1, 1, 0, 0, 0, 21, 22, 23, 0, 0, 0, 11, 12, 13},
	} {
		step(t, r, writer, nil, false)
		is(t, "the write", r, 6-i, 6, cells...)
	}
	for i := range 5 {
		step(t, r, reader, nil, false)
		is(t, "the read", r, 1, 5-i, 1, 1, 1, 1, 0, 0, 0, 21, 22, 23, 0, 0, 0, 11, 12, 13)
	}
	step(t, r, writer, nil, true)
	is(t, "behind the write", r, 0, 1, 0, 1, 1, 1, 0, 0, 0, 21, 22, 23, 0, 0, 0, 11, 12, 13)
	step(t, r, reader, []int{11, 12, 13}, true)
	is(t, "behind both", r, 0, 0, 0, 1, 1, 1, 0, 0, 0, 21, 22, 23, 0, 0, 0, 11, 12, 13)
	read(t, r, []int{21, 22, 23})
}

func TestWhenEachCellIsRead(t *testing.T) {
	for _, x := range []struct {
		read  bool   // 7 was written ahead, and read, too
		row   string // who makes the next access: one of a write of 8, or one of a read
		told  int
		cells []int
	}{
		// The reader's first access reads latest.
		{true, "wwwwwrrrr", 8, []int{0, 0, 1, 1, 0, 8, 0, 7}},
		{true, "wwwwrwrrr", 7, []int{0, 1, 1, 1, 0, 8, 0, 7}},
		{true, "rwwwwwrrr", 7, []int{0, 1, 1, 1, 0, 8, 0, 7}},
		{true, "wrwwwrwrr", 7, []int{0, 1, 1, 1, 0, 8, 0, 7}},
		// The writer's first access reads reading, which the reader's second one turns.
		{false, "rrwwwwwrr", 7, []int{0, 1, 1, 1, 0, 8, 0, 7}},
		{false, "rrwrrwwww", 7, []int{0, 1, 1, 1, 0, 8, 0, 7}},
		{false, "rwrwwwwrr", 8, []int{1, 1, 0, 0, 0, 0, 8, 7}},
		{false, "wrrwwwwrr", 8, []int{1, 1, 0, 0, 0, 0, 8, 7}},
		// The reader's third access reads slot, which the writer's fourth one turns.
		{false, "wrrwwwrwr", 8, []int{1, 1, 0, 0, 0, 0, 8, 7}},
		{false, "wwwwrrrwr", 8, []int{1, 1, 0, 0, 0, 0, 8, 7}},
		{false, "wrrwwrwwr", 7, []int{1, 1, 0, 0, 0, 0, 8, 7}},
		{false, "wwwrrrwwr", 7, []int{1, 1, 0, 0, 0, 0, 8, 7}},
	} {
		r := four.New(1)
		write(t, r, []int{7})
		if x.read {
			read(t, r, []int{7})
		}
		begin(t, r, writer, []int{8})
		begin(t, r, reader, nil)
		mix(t, r, x.row, x.told)
		is(t, x.row, r, 0, 0, x.cells...)
	}
}

// mix makes the row's accesses, and fails unless the reader's last one tells this word.
func mix(t *testing.T, r *four.Register, row string, told int) {
	t.Helper()
	for _, who := range row {
		side := who == 'w'
		last := r.Left(side) == 1
		var want []int
		if last && side == reader {
			want = []int{told}
		}
		step(t, r, side, want, last)
	}
}

func TestWordsThatMayBe(t *testing.T) {
	for words := 1; words <= 6; words++ {
		for i := range words {
			for _, v := range []int{0, 1, 2, 255, 1 << 16, 1 << 30, most - 1, most} {
				r, l := four.New(words), message(1, words)
				l[i] = v
				write(t, r, l)
				read(t, r, l)
			}
		}
		for _, v := range []int{0, most} {
			r := four.New(words)
			write(t, r, message(1, words))
			write(t, r, filled(words, v))
			read(t, r, filled(words, v))
		}
	}
}

// unfit are lists that a register of so many words takes none of.
func unfit(words int) [][]int {
	var all [][]int
	for n := range 10 {
		if n != words {
			all = append(all, filled(n, 1), filled(n, most), filled(n, -1))
		}
	}
	all = append(all, nil, []int{}, filled(100, 0))
	for _, v := range wrong() {
		for i := range words {
			l := message(9, words)
			l[i] = v
			all = append(all, l)
		}
		all = append(all, filled(words, v))
	}
	return all
}

func TestWriteThatIsRefused(t *testing.T) {
	for words := 1; words <= 6; words++ {
		// None is under way (below 0), or one that has made so many accesses.
		for made := -1; made < words+4; made++ {
			r := four.New(words)
			if made >= 0 {
				begin(t, r, writer, message(1, words))
				steps(t, r, writer, made)
			}
			left, cells := r.Left(writer), r.Cells()
			for _, l := range unfit(words) {
				if e := r.Write(l); e != api.InvalidParam {
					t.Errorf("%d words, behind %d accesses: Write(%v): %v", words, made, l, e)
				}
			}
			is(t, "behind what is no message", r, left, 0, cells...)
			if made < 0 {
				none(t, "behind what is no message", r, writer)
				continue
			}
			for _, v := range []int{0, 5, most} {
				if e := r.Write(filled(words, v)); e != api.NoAction {
					t.Errorf("%d words, behind %d accesses: Write of %d: %v", words, made, v, e)
				}
			}
			is(t, "behind a second write", r, left, 0, cells...)
			// The one that is under way goes on as if nothing had been asked.
			steps(t, r, writer, left-1)
			step(t, r, writer, nil, true)
			read(t, r, message(1, words))
		}
	}
}

func TestReadThatIsRefused(t *testing.T) {
	for words := 1; words <= 6; words++ {
		for made := range words + 3 {
			r := four.New(words)
			write(t, r, message(1, words))
			begin(t, r, reader, nil)
			steps(t, r, reader, made)
			left, cells := r.Left(reader), r.Cells()
			for range 2 {
				if e := r.Read(); e != api.NoAction {
					t.Errorf("%d words, behind %d accesses: Read: %v", words, made, e)
				}
			}
			is(t, "behind a second read", r, 0, left, cells...)
			steps(t, r, reader, left-1)
			step(t, r, reader, message(1, words), true)
			read(t, r, message(1, words))
		}
	}
}

func TestSidesAreApart(t *testing.T) {
	r := four.New(2)
	begin(t, r, writer, []int{5, 6})
	none(t, "a write alone", r, reader)
	is(t, "a write alone", r, 6, 0, make([]int, 12)...)
	begin(t, r, reader, nil)
	is(t, "both", r, 6, 5, make([]int, 12)...)
	if !r.Drop(writer) {
		t.Error("Drop of the write is false")
	}
	none(t, "a read alone", r, writer)
	is(t, "a read alone", r, 0, 5, make([]int, 12)...)
	begin(t, r, writer, []int{7, 8})
	if !r.Drop(reader) {
		t.Error("Drop of the read is false")
	}
	is(t, "the second write alone", r, 6, 0, make([]int, 12)...)
}

func TestDropOfAWrite(t *testing.T) {
	// What is in the memory behind so many accesses of a write of 21, 22.
	for made, cells := range [][]int{
		{1, 1, 0, 1, 0, 0, 0, 0, 0, 0, 11, 12},
		{1, 1, 0, 1, 0, 0, 0, 0, 0, 0, 11, 12},
		{1, 1, 0, 1, 0, 0, 0, 0, 0, 0, 11, 12},
		{1, 1, 0, 1, 0, 0, 21, 0, 0, 0, 11, 12},
		{1, 1, 0, 1, 0, 0, 21, 22, 0, 0, 11, 12},
		{1, 1, 1, 1, 0, 0, 21, 22, 0, 0, 11, 12},
	} {
		// Behind it comes a write, or a read, or both.
		for _, next := range []string{"", "w", "r", "rw", "wr", "rwr"} {
			r := four.New(2)
			write(t, r, []int{11, 12})
			read(t, r, []int{11, 12})
			begin(t, r, writer, []int{21, 22})
			steps(t, r, writer, made)
			if !r.Drop(writer) {
				t.Errorf("behind %d accesses: Drop is false", made)
			}
			is(t, "behind Drop", r, 0, 0, cells...)
			none(t, "behind Drop", r, writer)
			want := []int{11, 12}
			for _, who := range next {
				if who == 'w' {
					want = []int{31, 32}
					write(t, r, want)
				} else {
					read(t, r, want)
				}
			}
			if strings.HasPrefix(next, "w") {
				// It begins anew, at the place that the one that was dropped had, or at the other one if that was told to slot.
				at, slot := 6, 1
				if made == 5 {
					at, slot = 4, 0
				}
				after := slices.Clone(cells)
				after[0], after[2], after[at], after[at+1] = 0, slot, 31, 32
				if next == "wr" {
					after[1] = 0
				}
				is(t, "behind the next write", r, 0, 0, after...)
			}
		}
	}
}

func TestDropOfARead(t *testing.T) {
	for made := range 5 {
		for _, next := range []string{"", "w", "r", "rw", "wr", "rwr"} {
			r := four.New(2)
			write(t, r, []int{11, 12})
			begin(t, r, reader, nil)
			steps(t, r, reader, made)
			if !r.Drop(reader) {
				t.Errorf("behind %d accesses: Drop is false", made)
			}
			cells := []int{1, 0, 0, 1, 0, 0, 0, 0, 0, 0, 11, 12}
			if made >= 2 {
				cells[1] = 1
			}
			is(t, "behind Drop", r, 0, 0, cells...)
			none(t, "behind Drop", r, reader)
			want := []int{11, 12}
			for _, who := range next {
				if who == 'w' {
					want = []int{21, 22}
					write(t, r, want)
				} else {
					read(t, r, want)
				}
			}
			if next == "w" && made < 2 {
				is(t, "behind the next write", r, 0, 0, 1, 0, 0, 0, 0, 0, 0, 0, 21, 22, 11, 12)
			}
			if next == "w" && made >= 2 {
				is(t, "behind the next write", r, 0, 0, 0, 1, 1, 1, 0, 0, 21, 22, 0, 0, 11, 12)
			}
		}
	}
}

func TestDropLeavesWhatTheOtherSideHas(t *testing.T) {
	for made := range 5 {
		r := four.New(2)
		write(t, r, []int{11, 12})
		begin(t, r, reader, nil)
		begin(t, r, writer, []int{21, 22})
		steps(t, r, reader, made)
		r.Drop(writer)
		steps(t, r, reader, 4-made)
		step(t, r, reader, []int{11, 12}, true)

		begin(t, r, reader, nil)
		begin(t, r, writer, []int{31, 32})
		steps(t, r, writer, made)
		r.Drop(reader)
		steps(t, r, writer, 5-made)
		step(t, r, writer, nil, true)
		read(t, r, []int{31, 32})
	}
}

func TestWhatIsHandedIn(t *testing.T) {
	for words := 1; words <= 6; words++ {
		// It is turned behind so many of the write's accesses.
		for made := range words + 4 {
			r := four.New(words)
			room := append(message(1, words), 98, 99)
			l := room[:words]
			begin(t, r, writer, l)
			steps(t, r, writer, made)
			if !slices.Equal(room, append(message(1, words), 98, 99)) {
				t.Errorf("behind %d accesses it is %v", made, room)
			}
			for i := range room {
				room[i] = -7
			}
			steps(t, r, writer, words+3-made)
			step(t, r, writer, nil, true)
			read(t, r, message(1, words))
			if !slices.Equal(room, filled(words+2, -7)) {
				t.Errorf("what was turned is %v", room)
			}
		}
	}
}

func TestListsAreNewMemory(t *testing.T) {
	r := four.New(2)
	write(t, r, []int{11, 12})
	told := func() []int {
		begin(t, r, reader, nil)
		steps(t, r, reader, 4)
		l, _, _ := r.Step(reader)
		return l
	}
	a, b, c, d := told(), told(), r.Cells(), r.Cells()
	want := []int{1, 1, 0, 1, 0, 0, 0, 0, 0, 0, 11, 12}
	for i := range a {
		a[i] = 97
	}
	for i := range c {
		c[i] = 1
	}
	_, _ = append(a, 98), append(c, 98)
	if !slices.Equal(b, []int{11, 12}) || !slices.Equal(d, want) {
		t.Errorf("other lists turned: %v, %v", b, d)
	}
	is(t, "behind lists that were turned", r, 0, 0, want...)
	read(t, r, []int{11, 12})
	write(t, r, []int{21, 22})
	write(t, r, []int{31, 32})
	read(t, r, []int{31, 32})
	if !slices.Equal(a, []int{97, 97}) || !slices.Equal(b, []int{11, 12}) || !slices.Equal(d, want) {
		t.Errorf("lists turned with the register: %v, %v, %v", a, b, d)
	}
}

func TestRegistersShareNothing(t *testing.T) {
	a, b := four.New(1), four.New(1)
	begin(t, a, writer, []int{5})
	none(t, "the other one", b, writer)
	begin(t, b, reader, nil)
	none(t, "the one", a, reader)
	steps(t, a, writer, 4)
	step(t, a, writer, nil, true)
	steps(t, b, reader, 3)
	step(t, b, reader, []int{0}, true)
	is(t, "the other one", b, 0, 0, make([]int, 8)...)
	is(t, "the one", a, 0, 0, 1, 0, 0, 1, 0, 0, 0, 5)
}

func TestNil(t *testing.T) {
	var r *four.Register
	lists := unfit(1)
	for n := range 8 {
		lists = append(lists, message(1, n), filled(n, most))
	}
	for range 2 {
		for _, l := range lists {
			if e := r.Write(l); e != api.InvalidParam {
				t.Errorf("nil: Write(%v): %v", l, e)
			}
		}
		if e := r.Read(); e != api.NoAction {
			t.Errorf("nil: Read: %v", e)
		}
		for _, side := range []bool{writer, reader} {
			none(t, "nil", r, side)
		}
		if r.Words() != 0 || len(r.Cells()) != 0 {
			t.Errorf("nil: %d words, the cells %v", r.Words(), r.Cells())
		}
	}
}

// half is what one side of a record has under way.
type half struct {
	under             bool
	made, pair, place int
	list              []int
}

// record is what a register is to be, by numbers alone: how many accesses each side has made says what the next one is.
type record struct {
	words int
	cells []int
	w, r  half
}

func newRecord(words int) *record { return &record{words: words, cells: make([]int, 4+4*words)} }

// at is the cell of a word of the message that the half has chosen.
func (m *record) at(h half, i int) int { return 4 + h.pair*2*m.words + h.place*m.words + i }

func (m *record) write(l []int) api.Errno {
	if len(l) != m.words || slices.ContainsFunc(l, func(v int) bool { return v < 0 || v > most }) {
		return api.InvalidParam
	}
	if m.w.under {
		return api.NoAction
	}
	m.w = half{under: true, list: slices.Clone(l)}
	return api.NoError
}

func (m *record) read() api.Errno {
	if m.r.under {
		return api.NoAction
	}
	m.r = half{under: true}
	return api.NoError
}

func (m *record) left(side bool) int {
	if side == writer && m.w.under {
		return m.words + 4 - m.w.made
	}
	if side == reader && m.r.under {
		return m.words + 3 - m.r.made
	}
	return 0
}

func (m *record) drop(side bool) bool {
	was := m.left(side) > 0
	if side == writer {
		m.w = half{}
	} else {
		m.r = half{}
	}
	return was
}

func (m *record) step(side bool) ([]int, bool, api.Errno) {
	left := m.left(side)
	if left == 0 {
		return nil, false, api.NotAvailable
	}
	if side == writer {
		m.stepWrite()
	} else {
		m.stepRead()
	}
	if left > 1 {
		return nil, false, api.NoError
	}
	told := m.r.list
	if side == writer {
		told = nil
	}
	m.drop(side)
	return told, true, api.NoError
}

func (m *record) stepWrite() {
	h := &m.w
	i := h.made - 2
	switch {
	case h.made == 0 && m.cells[1] == 0:
		h.pair = 1
	case h.made == 0:
		h.pair = 0
	case h.made == 1 && m.cells[2+h.pair] == 0:
		h.place = 1
	case h.made == 1:
		h.place = 0
	case i < m.words:
		m.cells[m.at(*h, i)] = h.list[i]
	case i == m.words:
		m.cells[2+h.pair] = h.place
	default:
		m.cells[0] = h.pair
	}
	h.made++
}

func (m *record) stepRead() {
	h := &m.r
	switch h.made {
	case 0:
		h.pair = m.cells[0]
	case 1:
		m.cells[1] = h.pair
	case 2:
		h.place = m.cells[2+h.pair]
	default:
		h.list = append(h.list, m.cells[m.at(*h, h.made-3)])
	}
	h.made++
}

// same fails unless both have the same left, and the same cells.
func same(t *testing.T, r *four.Register, m *record) {
	t.Helper()
	is(t, "beside a record", r, m.left(writer), m.left(reader), m.cells...)
	if r.Words() != m.words {
		t.Errorf("%d words, not %d", r.Words(), m.words)
	}
}

// sameStep makes one access of both, and fails if they tell otherwise.
func sameStep(t *testing.T, r *four.Register, m *record, side bool) {
	t.Helper()
	l, last, e := r.Step(side)
	wantL, wantLast, wantE := m.step(side)
	if !slices.Equal(l, wantL) || last != wantLast || e != wantE {
		t.Fatalf("Step(%v) = %v, %v, %v, not %v, %v, %v", side, l, last, e, wantL, wantLast, wantE)
	}
}

func TestEachRowBesideARecord(t *testing.T) {
	t.Parallel()
	for row := range rows(10, 8) {
		r, m := four.New(1), newRecord(1)
		n := 0
		for _, side := range row {
			if m.left(side) == 0 && side == writer {
				n++
				r.Write(message(n, 1))
				m.write(message(n, 1))
			} else if m.left(side) == 0 {
				r.Read()
				m.read()
			}
			sameStep(t, r, m, side)
			same(t, r, m)
		}
	}
}

func TestWhateverRow(t *testing.T) {
	random := rand.New(rand.NewPCG(5, 6))
	words := append(wrong(), 0, 1, 2, most-1, most)
	for range 600 {
		n := 1 + random.IntN(6)
		r, m := four.New(n), newRecord(n)
		for range 150 {
			side := random.IntN(2) == 0
			switch random.IntN(20) {
			case 0:
				if got, want := r.Drop(side), m.drop(side); got != want {
					t.Fatalf("Drop(%v) = %v", side, got)
				}
			case 1, 2:
				if got, want := r.Read(), m.read(); got != want {
					t.Fatalf("Read: %v, not %v", got, want)
				}
			case 3, 4:
				l := make([]int, n)
				for i := range l {
					l[i] = random.IntN(most)
				}
				if k := random.IntN(8); k == 0 {
					l = l[1:]
				} else if k == 1 {
					l[random.IntN(n)] = words[random.IntN(len(words))]
				}
				if got, want := r.Write(l), m.write(l); got != want {
					t.Fatalf("Write(%v): %v, not %v", l, got, want)
				}
			default:
				sameStep(t, r, m, side)
			}
			same(t, r, m)
		}
	}
}

// P6.2 and P6.3 are asked by the tests from here on.

// rows are all rows of so many that are the writer's and so many that are the reader's.
func rows(writes, reads int) iter.Seq[[]bool] {
	return func(yield func([]bool) bool) {
		row := make([]bool, 0, writes+reads)
		var grow func(w, r int) bool
		grow = func(w, r int) bool {
			if w+r == 0 {
				return yield(row)
			}
			end := len(row)
			for _, x := range []struct {
				side bool
				w, r int
			}{{writer, w - 1, r}, {reader, w, r - 1}} {
				if x.w < 0 || x.r < 0 {
					continue
				}
				row = append(row[:end], x.side)
				if !grow(x.w, x.r) {
					return false
				}
			}
			return true
		}
		grow(writes, reads)
	}
}

// watch holds what reads tell of a register against what was begun, and what was over.
type watch struct {
	t     *testing.T
	r     *four.Register
	words int
	begun int  // the last write that was begun
	over  int  // the last one that was over
	least int  // the last one that was over when the read was begun
	ahead int  // what the last read told
	drops bool // something was dropped
	told  int  // how many reads were over
}

func newWatch(t *testing.T, words int) *watch {
	return &watch{t: t, r: four.New(words), words: words}
}

// begin begins that side's next one, if none is under way.
func (w *watch) begin(side bool) {
	if w.r.Left(side) > 0 {
		return
	}
	if side == writer {
		w.begun++
	} else {
		w.least = w.over
	}
	begin(w.t, w.r, side, message(w.begun, w.words))
}

// step makes that side's next access; it begins a next one no earlier than at its first access, so that what a read may tell is the least.
func (w *watch) step(side bool) {
	w.begin(side)
	l, last, e := w.r.Step(side)
	if e != api.NoError {
		w.t.Fatalf("Step(%v): %v", side, e)
	}
	if last && side == writer {
		w.over = w.begun
	} else if last {
		w.hold(l)
	}
}

// drop drops what that side has under way.
func (w *watch) drop(side bool) {
	w.drops = w.r.Drop(side) || w.drops
}

// hold fails unless a read that is over may tell this.
func (w *watch) hold(l []int) {
	w.told++
	n := w.least
	for n <= w.begun && !slices.Equal(l, message(n, w.words)) {
		n++
	}
	if n > w.begun {
		w.t.Fatalf("a read tells %v, which is none of the messages %d to %d", l, w.least, w.begun)
	}
	if !w.drops && n < w.ahead {
		w.t.Fatalf("a read tells the message %d, the read ahead %d", n, w.ahead)
	}
	w.ahead = n
}

func TestEachRow(t *testing.T) {
	t.Parallel()
	for _, x := range []struct{ words, writes, reads int }{
		{1, 2, 1}, {1, 2, 2}, {2, 2, 1}, {2, 2, 2},
		// And two reads beside one write, a third write beside one read, a third word.
		{1, 1, 2}, {1, 3, 1}, {2, 1, 2}, {2, 3, 1}, {3, 2, 1},
	} {
		for row := range rows(x.writes*(x.words+4), x.reads*(x.words+3)) {
			w := newWatch(t, x.words)
			for _, side := range row {
				w.step(side)
			}
			if w.over != x.writes || w.told != x.reads {
				t.Fatalf("%d writes and %d reads are over, not %d and %d", w.over, w.told, x.writes, x.reads)
			}
		}
	}
}

// moves makes of a side's next one so many accesses, and drops it then if these are not all.
func (w *watch) moves(side bool, made []int, all int) []func() {
	var list []func()
	for _, n := range made {
		for i := range n {
			list = append(list, func() {
				w.step(side)
				if i == n-1 && n < all {
					w.drop(side)
				}
			})
		}
		if n == 0 {
			list = append(list, func() { w.begin(side); w.drop(side) })
		}
	}
	return list
}

// eachDrop goes through all rows of these writes and reads, given by how many accesses each makes.
func eachDrop(t *testing.T, words int, writes, reads []int) {
	w := newWatch(t, words)
	n, m := len(w.moves(writer, writes, words+4)), len(w.moves(reader, reads, words+3))
	for row := range rows(n, m) {
		w := newWatch(t, words)
		a, b := w.moves(writer, writes, words+4), w.moves(reader, reads, words+3)
		for _, side := range row {
			if side == writer {
				a[0]()
				a = a[1:]
			} else {
				b[0]()
				b = b[1:]
			}
		}
		if w.told == 0 {
			t.Fatal("no read was over")
		}
	}
}

func TestEachRowWithDrops(t *testing.T) {
	t.Parallel()
	// One word: 5 accesses are a whole write, 4 a whole read.
	for i := range 6 {
		for j := range 5 {
			eachDrop(t, 1, []int{i, 5}, []int{j, 4})
			eachDrop(t, 1, []int{5, i}, []int{j, 4})
			eachDrop(t, 1, []int{5, i, 5}, []int{4})
		}
	}
	// Two words: 6 and 5.
	for i := range 7 {
		for j := range 6 {
			eachDrop(t, 2, []int{i, j, 6}, []int{5})
		}
	}
	for i := range 6 {
		eachDrop(t, 2, []int{6}, []int{i, 5})
	}
}

// drawn makes many rows that are drawn, in which one of so many is a drop (0: none).
func drawn(t *testing.T, seed uint64, drops int) {
	random := rand.New(rand.NewPCG(7, seed))
	for words := 1; words <= 6; words++ {
		for range 400 {
			w := newWatch(t, words)
			// How often who has the next access changes, so that long runs of one side come, too.
			runs, side := 1+random.IntN(12), writer
			for range 300 {
				if random.IntN(runs) == 0 {
					side = random.IntN(2) == 0
				}
				switch {
				case drops > 0 && random.IntN(drops) == 0:
					w.drop(side)
				case random.IntN(10) == 0:
					w.begin(side)
				default:
					w.step(side)
				}
			}
		}
	}
}

func TestDrawnRows(t *testing.T) { drawn(t, 1, 0) }

func TestDrawnRowsWithDrops(t *testing.T) {
	for _, drops := range []int{3, 8, 30} {
		drawn(t, uint64(drops), drops)
	}
}
