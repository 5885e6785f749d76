package triple_test

import (
	"iter"
	"math"
	"math/rand/v2"
	"slices"
	"strings"
	"testing"

	"empennage/api"
	"empennage/triple"
)

const (
	writer = true
	reader = false
	most   = 1<<31 - 1
)

// wrong are numbers that are no words.
func wrong() []int {
	return []int{-1, -2, math.MinInt, -most, most + 1, most + 2, 1 << 32, 1<<32 + 1, math.MaxInt}
}

// message is the n-th one that is written: no two messages, and no two words of one, have a word in common. The 0-th is the first one, all 0.
func message(n, words int) []int {
	l := make([]int, words)
	for i := range l {
		if n > 0 {
			l[i] = 10*n + i + 1
		}
	}
	return l
}

// filled is so many words of that one.
func filled(n, v int) []int { return slices.Repeat([]int{v}, n) }

// begin begins a write of the list, or else a read.
func begin(t *testing.T, r *triple.Register, side bool, l []int) {
	t.Helper()
	e := api.NoError
	if side == writer {
		e = r.Write(l)
	} else {
		e = r.Read()
	}
	if e != api.NoError {
		t.Fatalf("one that begins (%v), %v: %v", side, l, e)
	}
}

// step makes one access, and fails unless it tells this.
func step(t *testing.T, r *triple.Register, side bool, told []int, last bool) {
	t.Helper()
	l, is, e := r.Step(side)
	if !slices.Equal(l, told) || is != last || e != api.NoError {
		t.Errorf("Step(%v) = %v, %v, %v, not %v, %v", side, l, is, e, told, last)
	}
}

// steps makes so many accesses, none of which is the last one.
func steps(t *testing.T, r *triple.Register, side bool, n int) {
	t.Helper()
	for range n {
		step(t, r, side, nil, false)
	}
}

// write writes all of the list.
func write(t *testing.T, r *triple.Register, l []int) {
	t.Helper()
	begin(t, r, writer, l)
	steps(t, r, writer, len(l))
	step(t, r, writer, nil, true)
}

// accesses is how many a read makes that begins now, if no write is stepped meanwhile.
func accesses(r *triple.Register) int {
	if r.Cells()[0] >= 4 {
		return r.Words() + 2
	}
	return r.Words() + 1
}

// read reads, and fails unless it tells this list.
func read(t *testing.T, r *triple.Register, l []int) {
	t.Helper()
	begin(t, r, reader, nil)
	steps(t, r, reader, accesses(r)-1)
	step(t, r, reader, l, true)
}

// busy is who has one under way: w, r, wr, or none of both.
func busy(r *triple.Register) string {
	who := ""
	if r.Busy(writer) {
		who += "w"
	}
	if r.Busy(reader) {
		who += "r"
	}
	return who
}

// is fails unless these have one under way, these are the sides' own, and the memory has these words.
func is(t *testing.T, what string, r *triple.Register, under string, writers, readers int, cells ...int) {
	t.Helper()
	if who := busy(r); who != under {
		t.Errorf("%s: under way are %q, not %q", what, who, under)
	}
	if w, d := r.Own(writer), r.Own(reader); w != writers || d != readers {
		t.Errorf("%s: the own ones are %d and %d, not %d and %d", what, w, d, writers, readers)
	}
	if got := r.Cells(); !slices.Equal(got, cells) {
		t.Errorf("%s: the cells are %v, not %v", what, got, cells)
	}
}

// none fails unless that side has none under way.
func none(t *testing.T, what string, r *triple.Register, side bool) {
	t.Helper()
	under, words, cells, w, d := busy(r), r.Words(), r.Cells(), r.Own(writer), r.Own(reader)
	for range 2 {
		if l, last, e := r.Step(side); len(l) != 0 || last || e != api.NotAvailable {
			t.Errorf("%s: Step(%v) = %v, %v, %v", what, side, l, last, e)
		}
		if r.Drop(side) {
			t.Errorf("%s: Drop(%v) is true", what, side)
		}
		if r.Busy(side) {
			t.Errorf("%s: Busy(%v) is true", what, side)
		}
	}
	is(t, what+", behind calls that do nothing", r, under, w, d, cells...)
	if r.Words() != words {
		t.Errorf("%s: %d words turned to %d", what, words, r.Words())
	}
}

// P7.1 is asked by the tests from here on.

func TestNew(t *testing.T) {
	for _, x := range [][2]int{
		{1, 1}, {2, 2}, {3, 3}, {4, 4}, {5, 5}, {6, 6},
		{0, 1}, {-1, 1}, {-6, 1}, {math.MinInt, 1}, {math.MinInt + 1, 1},
		{7, 6}, {8, 6}, {api.MaxCells, 6}, {1 << 32, 6}, {math.MaxInt - 1, 6}, {math.MaxInt, 6},
	} {
		r, words := triple.New(x[0]), x[1]
		if got := r.Words(); got != words {
			t.Errorf("New(%d): %d words, not %d", x[0], got, words)
		}
		is(t, "a new one", r, "", 1, 2, make([]int, 1+3*words)...)
		none(t, "a new one", r, writer)
		none(t, "a new one", r, reader)
		read(t, r, make([]int, words))
		write(t, r, message(1, words))
		read(t, r, message(1, words))
	}
}

func TestExample(t *testing.T) {
	r := triple.New(1)
	for _, x := range []struct {
		side     bool
		accesses int
	}{{writer, 2}, {reader, 3}, {reader, 2}} {
		begin(t, r, x.side, []int{7})
		for n, last := 1, false; !last && r.Busy(x.side); n++ {
			if _, last, _ = r.Step(x.side); last != (n == x.accesses) {
				t.Errorf("the access %d (%v): the last one is %v", n, x.side, last)
			}
		}
	}
}

func TestEachAccessOfOneWord(t *testing.T) {
	r := triple.New(1)
	begin(t, r, writer, []int{7})
	is(t, "a write that makes none yet", r, "w", 1, 2, 0, 0, 0, 0)
	step(t, r, writer, nil, false)
	is(t, "the word is written", r, "w", 1, 2, 0, 0, 7, 0)
	step(t, r, writer, nil, true)
	is(t, "the write's swap", r, "", 0, 2, 5, 0, 7, 0)
	none(t, "behind the write", r, writer)
	// A read that swaps.
	begin(t, r, reader, nil)
	is(t, "a read that makes none yet", r, "r", 0, 2, 5, 0, 7, 0)
	step(t, r, reader, nil, false)
	is(t, "the middle is read", r, "r", 0, 2, 5, 0, 7, 0)
	step(t, r, reader, nil, false)
	is(t, "the read's swap", r, "r", 0, 1, 2, 0, 7, 0)
	step(t, r, reader, []int{7}, true)
	is(t, "behind the read", r, "", 0, 1, 2, 0, 7, 0)
	none(t, "behind the read", r, reader)
	// One that doesn't.
	begin(t, r, reader, nil)
	step(t, r, reader, nil, false)
	is(t, "the middle is read again", r, "r", 0, 1, 2, 0, 7, 0)
	step(t, r, reader, []int{7}, true)
	is(t, "behind the second read", r, "", 0, 1, 2, 0, 7, 0)
	none(t, "behind the second read", r, reader)
	// The messages go round.
	write(t, r, []int{8})
	is(t, "behind 8", r, "", 2, 1, 4, 8, 7, 0)
	write(t, r, []int{9})
	is(t, "behind 9", r, "", 0, 1, 6, 8, 7, 9)
	read(t, r, []int{9})
	is(t, "behind the read of 9", r, "", 0, 2, 1, 8, 7, 9)
	write(t, r, []int{5})
	is(t, "behind 5", r, "", 1, 2, 4, 5, 7, 9)
	read(t, r, []int{5})
	is(t, "behind the read of 5", r, "", 1, 0, 2, 5, 7, 9)
}

func TestEachAccessOfThreeWords(t *testing.T) {
	r := triple.New(3)
	write(t, r, []int{11, 12, 13})
	read(t, r, []int{11, 12, 13})
	begin(t, r, writer, []int{21, 22, 23})
	begin(t, r, reader, nil)
	is(t, "both begin", r, "wr", 0, 1, 2, 0, 0, 0, 11, 12, 13, 0, 0, 0)
	for _, cells := range [][]int{
		{2, 21, 0, 0, 11, 12, 13, 0, 0, 0},
		{2, 21, 22, 0, 11, 12, 13, 0, 0, 0},
		{2, 21, 22, 23, 11, 12, 13, 0, 0, 0},
	} {
		step(t, r, writer, nil, false)
		is(t, "the write", r, "wr", 0, 1, cells...)
	}
	step(t, r, reader, nil, false)
	is(t, "the middle is read", r, "wr", 0, 1, 2, 21, 22, 23, 11, 12, 13, 0, 0, 0)
	step(t, r, writer, nil, true)
	cells := []int{4, 21, 22, 23, 11, 12, 13, 0, 0, 0}
	is(t, "behind the write", r, "r", 2, 1, cells...)
	for range 2 {
		step(t, r, reader, nil, false)
		is(t, "the read", r, "r", 2, 1, cells...)
	}
	step(t, r, reader, []int{11, 12, 13}, true)
	is(t, "behind both", r, "", 2, 1, cells...)
	begin(t, r, reader, nil)
	step(t, r, reader, nil, false)
	is(t, "the middle is read again", r, "r", 2, 1, cells...)
	for range 3 {
		step(t, r, reader, nil, false)
		is(t, "the read's swap, and words", r, "r", 2, 0, 1, 21, 22, 23, 11, 12, 13, 0, 0, 0)
	}
	step(t, r, reader, []int{21, 22, 23}, true)
	is(t, "behind the second read", r, "", 2, 0, 1, 21, 22, 23, 11, 12, 13, 0, 0, 0)
	none(t, "behind the second read", r, reader)
	none(t, "behind the second read", r, writer)
}

func TestWhenTheMiddleIsReadAndSwapped(t *testing.T) {
	for _, x := range []struct {
		read             bool   // 7 was written ahead, and read, too
		row              string // who makes the next access: one of a write of 8, or one of a read
		told             int
		writers, readers int
		cells            []int
	}{
		// The reader's first access reads the middle.
		{true, "wwrrr", 8, 2, 0, []int{1, 8, 7, 0}},
		{true, "wrwr", 7, 2, 1, []int{4, 8, 7, 0}},
		{true, "rwwr", 7, 2, 1, []int{4, 8, 7, 0}},
		{true, "rwrw", 7, 2, 1, []int{4, 8, 7, 0}},
		{true, "rrww", 7, 2, 1, []int{4, 8, 7, 0}},
		// Its second one swaps: what comes ahead of that is told.
		{false, "wwrrr", 8, 1, 0, []int{2, 8, 7, 0}},
		{false, "wrwrr", 8, 1, 0, []int{2, 8, 7, 0}},
		{false, "rwwrr", 8, 1, 0, []int{2, 8, 7, 0}},
		{false, "rwrwr", 7, 2, 1, []int{4, 8, 7, 0}},
		{false, "wrrwr", 7, 2, 1, []int{4, 8, 7, 0}},
		{false, "rrwwr", 7, 2, 1, []int{4, 8, 7, 0}},
		{false, "rrwrw", 7, 2, 1, []int{4, 8, 7, 0}},
		{false, "rrrww", 7, 2, 1, []int{4, 8, 7, 0}},
	} {
		r := triple.New(1)
		write(t, r, []int{7})
		if x.read {
			read(t, r, []int{7})
		}
		begin(t, r, writer, []int{8})
		begin(t, r, reader, nil)
		mix(t, r, x.row, x.told)
		is(t, x.row, r, "", x.writers, x.readers, x.cells...)
	}
}

// mix makes the row's accesses, and fails unless each side's last one there is its last one, and the reader's tells this word.
func mix(t *testing.T, r *triple.Register, row string, told int) {
	t.Helper()
	for i, who := range row {
		last := i == strings.LastIndex(row, string(who))
		var want []int
		if last && who == 'r' {
			want = []int{told}
		}
		step(t, r, who == 'w', want, last)
	}
}

func TestWordsThatMayBe(t *testing.T) {
	for words := 1; words <= 6; words++ {
		for i := range words {
			for _, v := range []int{0, 1, 2, 255, 1 << 16, 1 << 30, most - 1, most} {
				r, l := triple.New(words), message(1, words)
				l[i] = v
				write(t, r, l)
				read(t, r, l)
			}
		}
		for _, v := range []int{0, most} {
			r := triple.New(words)
			write(t, r, message(1, words))
			write(t, r, filled(words, v))
			read(t, r, filled(words, v))
		}
	}
}

// unfit are lists that a register of so many words takes none of.
func unfit(words int) [][]int {
	all := [][]int{nil, {}, filled(100, 0)}
	for n := range 10 {
		if n != words {
			all = append(all, filled(n, 1), filled(n, most), filled(n, -1))
		}
	}
	for _, v := range wrong() {
		for i := range words {
			l := message(9, words)
			l[i] = v
			all = append(all, l)
		}
		all = append(all, filled(words, v))
	}
	return all
}

func TestWriteThatIsRefused(t *testing.T) {
	for words := 1; words <= 6; words++ {
		// None is under way (below 0), or one that has made so many accesses.
		for made := -1; made <= words; made++ {
			r := triple.New(words)
			if made >= 0 {
				begin(t, r, writer, message(1, words))
				steps(t, r, writer, made)
			}
			under, cells := busy(r), r.Cells()
			for _, l := range unfit(words) {
				if e := r.Write(l); e != api.InvalidParam {
					t.Errorf("%d words, behind %d accesses: Write(%v): %v", words, made, l, e)
				}
			}
			is(t, "behind what is no message", r, under, 1, 2, cells...)
			if made < 0 {
				none(t, "behind what is no message", r, writer)
				continue
			}
			for _, v := range []int{0, 5, most} {
				if e := r.Write(filled(words, v)); e != api.NoAction {
					t.Errorf("%d words, behind %d accesses: Write of %d: %v", words, made, v, e)
				}
			}
			is(t, "behind a second write", r, "w", 1, 2, cells...)
			// The one that is under way goes on as if nothing had been asked.
			steps(t, r, writer, words-made)
			step(t, r, writer, nil, true)
			read(t, r, message(1, words))
		}
	}
}

func TestReadThatIsRefused(t *testing.T) {
	for words := 1; words <= 6; words++ {
		for made := range words + 2 {
			for _, swaps := range []bool{true, false} {
				r := triple.New(words)
				write(t, r, message(1, words))
				if !swaps {
					read(t, r, message(1, words))
				}
				all := accesses(r)
				if made >= all {
					continue
				}
				begin(t, r, reader, nil)
				steps(t, r, reader, made)
				w, d, cells := r.Own(writer), r.Own(reader), r.Cells()
				for range 2 {
					if e := r.Read(); e != api.NoAction {
						t.Errorf("%d words, behind %d accesses: Read: %v", words, made, e)
					}
				}
				is(t, "behind a second read", r, "r", w, d, cells...)
				steps(t, r, reader, all-made-1)
				step(t, r, reader, message(1, words), true)
				read(t, r, message(1, words))
			}
		}
	}
}

func TestSidesAreApart(t *testing.T) {
	r := triple.New(2)
	begin(t, r, writer, []int{5, 6})
	none(t, "a write alone", r, reader)
	is(t, "a write alone", r, "w", 1, 2, make([]int, 7)...)
	begin(t, r, reader, nil)
	is(t, "both", r, "wr", 1, 2, make([]int, 7)...)
	if !r.Drop(writer) {
		t.Error("Drop of the write is false")
	}
	none(t, "a read alone", r, writer)
	is(t, "a read alone", r, "r", 1, 2, make([]int, 7)...)
	begin(t, r, writer, []int{7, 8})
	if !r.Drop(reader) {
		t.Error("Drop of the read is false")
	}
	is(t, "the second write alone", r, "w", 1, 2, make([]int, 7)...)
}

// nexts makes whole writes, of 31 and 32, and whole reads, which tell what was written last.
func nexts(t *testing.T, r *triple.Register, row string, last []int) {
	t.Helper()
	for _, who := range row {
		if who == 'w' {
			last = []int{31, 32}
			write(t, r, last)
		} else {
			read(t, r, last)
		}
	}
}

func TestDropOfAWrite(t *testing.T) {
	// What is in the memory behind so many accesses of a write of 21, 22.
	for made, cells := range [][]int{
		{2, 0, 0, 11, 12, 0, 0},
		{2, 21, 0, 11, 12, 0, 0},
		{2, 21, 22, 11, 12, 0, 0},
	} {
		for _, next := range []string{"", "w", "r", "rw", "wr", "rwr", "wrwr"} {
			r := triple.New(2)
			write(t, r, []int{11, 12})
			read(t, r, []int{11, 12})
			begin(t, r, writer, []int{21, 22})
			steps(t, r, writer, made)
			if !r.Drop(writer) {
				t.Errorf("behind %d accesses: Drop is false", made)
			}
			is(t, "behind Drop", r, "", 0, 1, cells...)
			none(t, "behind Drop", r, writer)
			nexts(t, r, next, []int{11, 12})
			switch next {
			case "r":
				is(t, "behind the next read", r, "", 0, 1, cells...)
			case "w", "rw":
				is(t, "behind the next write", r, "", 2, 1, 4, 31, 32, 11, 12, 0, 0)
			case "wr", "rwr":
				is(t, "behind a read of the next write", r, "", 2, 0, 1, 31, 32, 11, 12, 0, 0)
			}
		}
	}
}

func TestDropOfAReadThatSwaps(t *testing.T) {
	for made := range 4 {
		// Behind the swap the message stays the reader's own, ahead of it it is still in the middle.
		middle, own, third := 5, 2, 1
		if made >= 2 {
			middle, own, third = 2, 1, 2
		}
		for _, next := range []string{"", "w", "r", "rw", "wr", "rwr"} {
			r := triple.New(2)
			write(t, r, []int{11, 12})
			begin(t, r, reader, nil)
			steps(t, r, reader, made)
			if !r.Drop(reader) {
				t.Errorf("behind %d accesses: Drop is false", made)
			}
			is(t, "behind Drop", r, "", 0, own, middle, 0, 0, 11, 12, 0, 0)
			none(t, "behind Drop", r, reader)
			nexts(t, r, next, []int{11, 12})
			switch next {
			case "r":
				is(t, "behind the next read", r, "", 0, 1, 2, 0, 0, 11, 12, 0, 0)
			case "w":
				is(t, "behind the next write", r, "", third, own, 4, 31, 32, 11, 12, 0, 0)
			case "wr":
				is(t, "behind a read of the next write", r, "", third, 0, own, 31, 32, 11, 12, 0, 0)
			}
		}
	}
}

func TestDropOfAReadThatDoesNotSwap(t *testing.T) {
	for made := range 3 {
		for _, next := range []string{"", "w", "r", "rw", "wr", "rwr"} {
			r := triple.New(2)
			write(t, r, []int{11, 12})
			read(t, r, []int{11, 12})
			begin(t, r, reader, nil)
			steps(t, r, reader, made)
			if !r.Drop(reader) {
				t.Errorf("behind %d accesses: Drop is false", made)
			}
			is(t, "behind Drop", r, "", 0, 1, 2, 0, 0, 11, 12, 0, 0)
			none(t, "behind Drop", r, reader)
			nexts(t, r, next, []int{11, 12})
			switch next {
			case "r":
				is(t, "behind the next read", r, "", 0, 1, 2, 0, 0, 11, 12, 0, 0)
			case "w", "rw":
				is(t, "behind the next write", r, "", 2, 1, 4, 31, 32, 11, 12, 0, 0)
			case "wr", "rwr":
				is(t, "behind a read of the next write", r, "", 2, 0, 1, 31, 32, 11, 12, 0, 0)
			}
		}
	}
}

func TestDropLeavesWhatTheOtherSideHas(t *testing.T) {
	for made := range 3 {
		r := triple.New(2)
		write(t, r, []int{11, 12})
		begin(t, r, reader, nil)
		begin(t, r, writer, []int{21, 22})
		steps(t, r, reader, made)
		r.Drop(writer)
		is(t, "the read goes on", r, "r", 0, r.Own(reader), r.Cells()...)
		steps(t, r, reader, 3-made)
		step(t, r, reader, []int{11, 12}, true)

		begin(t, r, reader, nil)
		begin(t, r, writer, []int{31, 32})
		steps(t, r, writer, made)
		r.Drop(reader)
		is(t, "the write goes on", r, "w", 0, 1, r.Cells()...)
		steps(t, r, writer, 2-made)
		step(t, r, writer, nil, true)
		read(t, r, []int{31, 32})
	}
}

func TestWhatIsHandedIn(t *testing.T) {
	for words := 1; words <= 6; words++ {
		// It is turned behind so many of the write's accesses.
		for made := range words + 1 {
			r := triple.New(words)
			room := append(message(1, words), 98, 99)
			begin(t, r, writer, room[:words])
			steps(t, r, writer, made)
			if !slices.Equal(room, append(message(1, words), 98, 99)) {
				t.Errorf("behind %d accesses it is %v", made, room)
			}
			for i := range room {
				room[i] = -7
			}
			steps(t, r, writer, words-made)
			step(t, r, writer, nil, true)
			read(t, r, message(1, words))
			if !slices.Equal(room, filled(words+2, -7)) {
				t.Errorf("what was turned is %v", room)
			}
		}
	}
}

func TestListsAreNewMemory(t *testing.T) {
	r := triple.New(2)
	write(t, r, []int{11, 12})
	told := func() []int {
		begin(t, r, reader, nil)
		steps(t, r, reader, accesses(r)-1)
		l, _, _ := r.Step(reader)
		return l
	}
	a, b, c, d := told(), told(), r.Cells(), r.Cells()
	want := []int{2, 0, 0, 11, 12, 0, 0}
	for i := range a {
		a[i] = 97
	}
	for i := range c {
		c[i] = 1
	}
	_, _ = append(a, 98), append(c, 98)
	if !slices.Equal(b, []int{11, 12}) || !slices.Equal(d, want) {
		t.Errorf("other lists turned: %v, %v", b, d)
	}
	is(t, "behind lists that were turned", r, "", 0, 1, want...)
	read(t, r, []int{11, 12})
	for _, l := range [][]int{{21, 22}, {31, 32}, {41, 42}} {
		write(t, r, l)
		read(t, r, l)
	}
	if !slices.Equal(a, []int{97, 97}) || !slices.Equal(b, []int{11, 12}) || !slices.Equal(d, want) {
		t.Errorf("lists turned with the register: %v, %v, %v", a, b, d)
	}
}

func TestRegistersShareNothing(t *testing.T) {
	a, b := triple.New(1), triple.New(1)
	begin(t, a, writer, []int{5})
	none(t, "the other one", b, writer)
	begin(t, b, reader, nil)
	none(t, "the one", a, reader)
	steps(t, a, writer, 1)
	step(t, a, writer, nil, true)
	steps(t, b, reader, 1)
	step(t, b, reader, []int{0}, true)
	is(t, "the other one", b, "", 1, 2, 0, 0, 0, 0)
	is(t, "the one", a, "", 0, 2, 5, 0, 5, 0)
}

func TestNil(t *testing.T) {
	var r *triple.Register
	lists := unfit(1)
	for n := range 8 {
		lists = append(lists, message(1, n), filled(n, most))
	}
	for range 2 {
		for _, l := range lists {
			if e := r.Write(l); e != api.InvalidParam {
				t.Errorf("nil: Write(%v): %v", l, e)
			}
		}
		if e := r.Read(); e != api.NoAction {
			t.Errorf("nil: Read: %v", e)
		}
		for _, side := range []bool{writer, reader} {
			none(t, "nil", r, side)
		}
		is(t, "nil", r, "", 0, 0)
		if r.Words() != 0 {
			t.Errorf("nil: %d words", r.Words())
		}
	}
}

// half is what one side of a record has under way.
type half struct {
	under, swaps bool
	made         int
	list         []int
}

// record is what a register is to be, by messages instead of cells.
type record struct {
	words       int
	slots       [3][]int
	fresh       bool
	middle      int
	ownW, ownR  int
	write, read half
}

func newRecord(words int) *record {
	m := &record{words: words, ownW: 1, ownR: 2}
	for i := range m.slots {
		m.slots[i] = make([]int, words)
	}
	return m
}

// side is what that side has under way.
func (m *record) side(side bool) *half {
	if side == writer {
		return &m.write
	}
	return &m.read
}

func (m *record) cells() []int {
	first := m.middle
	if m.fresh {
		first += 4
	}
	return slices.Concat([]int{first}, m.slots[0], m.slots[1], m.slots[2])
}

func (m *record) beginWrite(l []int) api.Errno {
	if len(l) != m.words || slices.ContainsFunc(l, func(v int) bool { return v < 0 || v > most }) {
		return api.InvalidParam
	}
	if m.write.under {
		return api.NoAction
	}
	m.write = half{under: true, list: slices.Clone(l)}
	return api.NoError
}

func (m *record) beginRead() api.Errno {
	if m.read.under {
		return api.NoAction
	}
	m.read = half{under: true}
	return api.NoError
}

func (m *record) drop(side bool) bool {
	h := m.side(side)
	was := h.under
	*h = half{}
	return was
}

func (m *record) step(side bool) ([]int, bool, api.Errno) {
	h := m.side(side)
	if !h.under {
		return nil, false, api.NotAvailable
	}
	var told []int
	over := false
	if side == writer {
		over = m.stepWrite()
	} else if over = m.stepRead(); over {
		told = h.list
	}
	h.made++
	if over {
		m.drop(side)
	}
	return told, over, api.NoError
}

func (m *record) stepWrite() bool {
	h := &m.write
	if h.made < m.words {
		m.slots[m.ownW][h.made] = h.list[h.made]
		return false
	}
	m.ownW, m.middle = m.middle, m.ownW
	m.fresh = true
	return true
}

func (m *record) stepRead() bool {
	h := &m.read
	switch {
	case h.made == 0:
		h.swaps = m.fresh
	case h.made == 1 && h.swaps:
		m.ownR, m.middle = m.middle, m.ownR
		m.fresh = false
	default:
		h.list = append(h.list, m.slots[m.ownR][len(h.list)])
	}
	return len(h.list) == m.words
}

// same fails unless both have the same under way, the same own ones, and the same cells.
func same(t *testing.T, r *triple.Register, m *record) {
	t.Helper()
	under := ""
	if m.write.under {
		under += "w"
	}
	if m.read.under {
		under += "r"
	}
	is(t, "beside a record", r, under, m.ownW, m.ownR, m.cells()...)
	if r.Words() != m.words {
		t.Errorf("%d words, not %d", r.Words(), m.words)
	}
}

// sameStep makes one access of both, and fails if they tell otherwise.
func sameStep(t *testing.T, r *triple.Register, m *record, side bool) {
	t.Helper()
	l, last, e := r.Step(side)
	wantL, wantLast, wantE := m.step(side)
	if !slices.Equal(l, wantL) || last != wantLast || e != wantE {
		t.Fatalf("Step(%v) = %v, %v, %v, not %v, %v, %v", side, l, last, e, wantL, wantLast, wantE)
	}
}

func TestEachRowBesideARecord(t *testing.T) {
	t.Parallel()
	for _, words := range []int{1, 2} {
		for row := range rows(8, 8) {
			r, m := triple.New(words), newRecord(words)
			n := 0
			for _, side := range row {
				if !m.side(side).under && side == writer {
					n++
					r.Write(message(n, words))
					m.beginWrite(message(n, words))
				} else if !m.side(side).under {
					r.Read()
					m.beginRead()
				}
				sameStep(t, r, m, side)
				same(t, r, m)
			}
		}
	}
}

// drawnList is one to write, now and then one that is refused.
func drawnList(random *rand.Rand, words int) []int {
	ends := append(wrong(), 0, 1, 2, most-1, most)
	l := make([]int, words)
	for i := range l {
		l[i] = random.IntN(most)
	}
	switch random.IntN(8) {
	case 0:
		l = l[1:]
	case 1:
		l = append(l, 1)
	case 2:
		l[random.IntN(words)] = ends[random.IntN(len(ends))]
	}
	return l
}

func TestWhateverRow(t *testing.T) {
	random := rand.New(rand.NewPCG(5, 6))
	for range 600 {
		n := 1 + random.IntN(6)
		r, m := triple.New(n), newRecord(n)
		for range 150 {
			side := random.IntN(2) == 0
			switch random.IntN(20) {
			case 0:
				if got, want := r.Drop(side), m.drop(side); got != want {
					t.Fatalf("Drop(%v) = %v", side, got)
				}
			case 1, 2:
				if got, want := r.Read(), m.beginRead(); got != want {
					t.Fatalf("Read: %v, not %v", got, want)
				}
			case 3, 4:
				l := drawnList(random, n)
				if got, want := r.Write(l), m.beginWrite(l); got != want {
					t.Fatalf("Write(%v): %v, not %v", l, got, want)
				}
			default:
				sameStep(t, r, m, side)
			}
			same(t, r, m)
		}
	}
}

// P7.2 and P7.3 are asked by the tests from here on.

// rows are all rows of so many that are the writer's and so many that are the reader's.
func rows(writes, reads int) iter.Seq[[]bool] {
	return func(yield func([]bool) bool) {
		row := make([]bool, 0, writes+reads)
		var grow func(w, r int) bool
		grow = func(w, r int) bool {
			if w+r == 0 {
				return yield(row)
			}
			end := len(row)
			if w > 0 {
				row = append(row[:end], writer)
				if !grow(w-1, r) {
					return false
				}
			}
			if r > 0 {
				row = append(row[:end], reader)
				return grow(w, r-1)
			}
			return true
		}
		grow(writes, reads)
	}
}

// watch holds what reads tell of a register against the swaps that were made.
type watch struct {
	t       *testing.T
	r       *triple.Register
	words   int
	begun   int   // the last write that was begun
	swapped []int // the writes whose swap was made, as they came, behind the first message
	first   bool  // the next access of the reader is a read's first one
	from    int   // the last one of swapped when that was made
	ahead   int   // the one of swapped that the last read told
	told    int   // how many reads were over
}

func newWatch(t *testing.T, words int) *watch {
	w := &watch{t: t, r: triple.New(words), words: words, swapped: []int{0}}
	w.apart()
	return w
}

// begin begins that side's next one, if none is under way.
func (w *watch) begin(side bool) {
	if w.r.Busy(side) {
		return
	}
	if side == writer {
		w.begun++
	} else {
		w.first = true
	}
	begin(w.t, w.r, side, message(w.begun, w.words))
	w.apart()
}

// step makes that side's next access, and tells whether it was the last one.
func (w *watch) step(side bool) bool {
	w.begin(side)
	if side == reader && w.first {
		w.first, w.from = false, len(w.swapped)-1
	}
	l, last, e := w.r.Step(side)
	if e != api.NoError {
		w.t.Fatalf("Step(%v): %v", side, e)
	}
	if last && side == writer {
		w.swapped = append(w.swapped, w.begun)
	} else if last {
		w.hold(l)
	}
	w.apart()
	return last
}

// drop drops what that side has under way.
func (w *watch) drop(side bool) {
	w.r.Drop(side)
	w.apart()
}

// hold fails unless a read that is over may tell this.
func (w *watch) hold(l []int) {
	w.told++
	n := max(w.from, w.ahead)
	for n < len(w.swapped) && !slices.Equal(l, message(w.swapped[n], w.words)) {
		n++
	}
	if n == len(w.swapped) {
		w.t.Fatalf("a read tells %v: of the messages %v it may tell the place %d, or one behind it; the read ahead told the place %d", l, w.swapped, w.from, w.ahead)
	}
	w.ahead = n
}

// apart fails unless the writer's own, the reader's own and the middle one are three messages (P7.3).
func (w *watch) apart() {
	three := []int{w.r.Own(writer), w.r.Own(reader), w.r.Cells()[0] % 4}
	slices.Sort(three)
	if !slices.Equal(three, []int{0, 1, 2}) {
		w.t.Fatalf("the writer's own is %d, the reader's %d, the middle one %d", w.r.Own(writer), w.r.Own(reader), w.r.Cells()[0]%4)
	}
}

// moves makes of a side's next ones so many accesses each, and drops one then if that is fewer than all. One that is over sooner than that makes no more.
func (w *watch) moves(side bool, made []int, all int) []func() {
	var list []func()
	for _, n := range made {
		if n == 0 {
			list = append(list, func() { w.begin(side); w.drop(side) })
		}
		over := false
		for i := range n {
			list = append(list, func() {
				over = over || w.step(side)
				if i == n-1 && n < all {
					w.drop(side)
				}
			})
		}
	}
	return list
}

// eachOf goes through all rows of these writes and reads, given by how many accesses each makes at most, and ends each row by a read.
func eachOf(t *testing.T, words int, writes, reads []int) {
	t.Helper()
	w := newWatch(t, words)
	n, m := len(w.moves(writer, writes, words+1)), len(w.moves(reader, reads, words+2))
	for row := range rows(n, m) {
		w := newWatch(t, words)
		a, b := w.moves(writer, writes, words+1), w.moves(reader, reads, words+2)
		for _, side := range row {
			if side == writer {
				a[0]()
				a = a[1:]
			} else {
				b[0]()
				b = b[1:]
			}
		}
		w.whole(reads)
		w.ends()
	}
}

// whole fails unless all reads that were not dropped are over.
func (w *watch) whole(reads []int) {
	least := 0
	for _, n := range reads {
		if n == w.words+2 {
			least++
		}
	}
	if w.told < least || w.r.Busy(reader) || w.r.Busy(writer) {
		w.t.Fatalf("%d reads are over, %d at least were to be; under way are %q", w.told, least, busy(w.r))
	}
}

// ends reads once more: no write comes meanwhile, so that the last one that was swapped is all it may tell.
func (w *watch) ends() {
	for !w.step(reader) {
	}
	if w.ahead != len(w.swapped)-1 {
		w.t.Fatalf("a read at the end tells the place %d of %v", w.ahead, w.swapped)
	}
}

func TestEachRow(t *testing.T) {
	t.Parallel()
	for words := 1; words <= 2; words++ {
		w, r := words+1, words+2
		eachOf(t, words, []int{w, w}, []int{r})
		eachOf(t, words, []int{w, w}, []int{r, r})
		eachOf(t, words, []int{w}, []int{r, r})
		eachOf(t, words, []int{w, w, w}, []int{r})
	}
	// And three of each of one word, two of each of three.
	eachOf(t, 1, []int{2, 2, 2}, []int{3, 3, 3})
	eachOf(t, 3, []int{4, 4}, []int{5})
	eachOf(t, 3, []int{4, 4}, []int{5, 5})
}

func TestEachRowWithDrops(t *testing.T) {
	t.Parallel()
	for words := 1; words <= 2; words++ {
		w, r := words+1, words+2
		for i := range w + 1 {
			for j := range w + 1 {
				for k := range r + 1 {
					eachOf(t, words, []int{i, j}, []int{k})
					eachOf(t, words, []int{i, j}, []int{k, r})
					eachOf(t, words, []int{i, j}, []int{r, k})
				}
				eachOf(t, words, []int{i, j, w}, []int{r})
				eachOf(t, words, []int{w, i, j}, []int{r})
			}
		}
	}
	// Of one word, each that is dropped beside each other one.
	for i := range 3 {
		for j := range 4 {
			for k := range 4 {
				eachOf(t, 1, []int{2, i, 2}, []int{j, k, 3})
			}
		}
	}
}

// drawn makes many rows that are drawn, in which one of so many is a drop (0: none).
func drawn(t *testing.T, seed uint64, drops int) {
	random := rand.New(rand.NewPCG(7, seed))
	for words := 1; words <= 6; words++ {
		for range 400 {
			w := newWatch(t, words)
			// How often who has the next access changes, so that long runs of one side come, too.
			runs, side := 1+random.IntN(12), writer
			for range 300 {
				if random.IntN(runs) == 0 {
					side = random.IntN(2) == 0
				}
				switch {
				case drops > 0 && random.IntN(drops) == 0:
					w.drop(side)
				case random.IntN(10) == 0:
					w.begin(side)
				default:
					w.step(side)
				}
			}
		}
	}
}

func TestDrawnRows(t *testing.T) { drawn(t, 1, 0) }

func TestDrawnRowsWithDrops(t *testing.T) {
	for _, drops := range []int{3, 8, 30} {
		drawn(t, uint64(drops), drops)
	}
}
