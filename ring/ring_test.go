package ring_test

import (
	"math"
	"slices"
	"testing"

	"empennage/api"
	"empennage/ring"
)

const (
	pusher = true
	popper = false
	most   = 1<<31 - 1
)

// wrong are numbers that are no words.
func wrong() []int {
	return []int{-1, -2, math.MinInt, -most, most + 1, most + 2, 1 << 32, 1<<32 + 1, math.MaxInt}
}

// message is the n-th one that is pushed: no two messages, and no two words of one, have a word in common, and none has 0.
func message(n, words int) []int {
	l := make([]int, words)
	for i := range l {
		l[i] = 10*n + i + 1
	}
	return l
}

// filled is so many words of that one.
func filled(n, v int) []int { return slices.Repeat([]int{v}, n) }

// begin begins a push of the list, or else a pop.
func begin(t *testing.T, r *ring.Ring, side bool, l []int) {
	t.Helper()
	e := api.NoError
	if side == pusher {
		e = r.Push(l)
	} else {
		e = r.Pop()
	}
	if e != api.NoError {
		t.Fatalf("one that begins (%v), %v: %v", side, l, e)
	}
}

// step makes one access, and fails unless it tells this.
func step(t *testing.T, r *ring.Ring, side bool, told []int, over bool, want api.Errno) {
	t.Helper()
	l, is, e := r.Step(side)
	if !slices.Equal(l, told) || is != over || e != want {
		t.Errorf("Step(%v) = %v, %v, %v, not %v, %v, %v", side, l, is, e, told, over, want)
	}
}

// steps makes so many accesses, behind none of which it is over.
func steps(t *testing.T, r *ring.Ring, side bool, n int) {
	t.Helper()
	for range n {
		step(t, r, side, nil, false, api.NoError)
	}
}

// push pushes all of the list.
func push(t *testing.T, r *ring.Ring, l []int) {
	t.Helper()
	begin(t, r, pusher, l)
	steps(t, r, pusher, len(l)+2)
	step(t, r, pusher, nil, true, api.NoError)
}

// pop pops, and fails unless it tells this list.
func pop(t *testing.T, r *ring.Ring, l []int) {
	t.Helper()
	begin(t, r, popper, nil)
	steps(t, r, popper, len(l)+2)
	step(t, r, popper, l, true, api.NoError)
}

// refused begins that side's next one, and fails unless it is refused behind two accesses.
func refused(t *testing.T, r *ring.Ring, side bool) {
	t.Helper()
	begin(t, r, side, filled(r.Words(), 99))
	steps(t, r, side, 1)
	step(t, r, side, nil, true, api.NotAvailable)
}

// busy is what is under way: in, out, in out, or none of both.
func busy(r *ring.Ring) string {
	under := ""
	if r.Busy(pusher) {
		under += "in "
	}
	if r.Busy(popper) {
		under += "out "
	}
	return under
}

// is fails unless this is under way, the ring holds so many, and the memory has these words.
func is(t *testing.T, what string, r *ring.Ring, under string, count int, cells ...int) {
	t.Helper()
	if got := busy(r); got != under {
		t.Errorf("%s: under way is %q, not %q", what, got, under)
	}
	if got := r.Count(); got != count {
		t.Errorf("%s: the ring holds %d, not %d", what, got, count)
	}
	if got := r.Cells(); !slices.Equal(got, cells) {
		t.Errorf("%s: the cells are %v, not %v", what, got, cells)
	}
}

// none fails unless that side has none under way.
func none(t *testing.T, what string, r *ring.Ring, side bool) {
	t.Helper()
	under, count, cells := busy(r), r.Count(), r.Cells()
	for range 2 {
		if l, over, e := r.Step(side); len(l) != 0 || over || e != api.NoAction {
			t.Errorf("%s: Step(%v) = %v, %v, %v", what, side, l, over, e)
		}
		if r.Drop(side) {
			t.Errorf("%s: Drop(%v) is true", what, side)
		}
		if r.Busy(side) {
			t.Errorf("%s: Busy(%v) is true", what, side)
		}
	}
	is(t, what+", behind calls that do nothing", r, under, count, cells...)
}

// P8.1 is asked by all tests of this file, and by those beside a record.

func TestNew(t *testing.T) {
	places := [][2]int{
		{1, 1}, {2, 2}, {3, 3}, {4, 4}, {5, 5}, {6, 6}, {7, 7}, {8, 8},
		{0, 1}, {-1, 1}, {-8, 1}, {math.MinInt, 1}, {math.MinInt + 1, 1},
		{9, 8}, {10, 8}, {api.MaxCells, 8}, {1 << 32, 8}, {math.MaxInt - 1, 8}, {math.MaxInt, 8},
	}
	words := [][2]int{
		{1, 1}, {2, 2}, {3, 3}, {4, 4}, {5, 5}, {6, 6},
		{0, 1}, {-1, 1}, {-6, 1}, {math.MinInt, 1}, {math.MinInt + 1, 1},
		{7, 6}, {8, 6}, {api.MaxCells, 6}, {1 << 32, 6}, {math.MaxInt - 1, 6}, {math.MaxInt, 6},
	}
	for _, p := range places {
		for _, w := range words {
			r := ring.New(p[0], w[0])
			if r.Places() != p[1] || r.Words() != w[1] {
				t.Errorf("New(%d, %d): %d places, %d words", p[0], w[0], r.Places(), r.Words())
			}
			is(t, "a new one", r, "", 0, make([]int, 2+p[1]*w[1])...)
			none(t, "a new one", r, pusher)
			none(t, "a new one", r, popper)
			full(t, r)
		}
	}
}

// full fills a ring that holds none, and empties it, and fails unless it holds as many as there are places.
func full(t *testing.T, r *ring.Ring) {
	t.Helper()
	refused(t, r, popper)
	for n := range r.Places() {
		if r.Count() != n {
			t.Errorf("the ring holds %d, not %d", r.Count(), n)
		}
		push(t, r, message(n, r.Words()))
	}
	refused(t, r, pusher)
	for n := range r.Places() {
		if r.Count() != r.Places()-n {
			t.Errorf("the ring holds %d, not %d", r.Count(), r.Places()-n)
		}
		pop(t, r, message(n, r.Words()))
	}
	refused(t, r, popper)
}

func TestExample(t *testing.T) {
	r := ring.New(1, 1)
	for _, x := range []struct {
		accesses int
		e        api.Errno
	}{{4, api.NoError}, {2, api.NotAvailable}} {
		begin(t, r, pusher, []int{7})
		steps(t, r, pusher, x.accesses-1)
		step(t, r, pusher, nil, true, x.e)
	}
	is(t, "behind the example", r, "", 1, 0, 1, 7)
}

func TestEachAccessOfOneWord(t *testing.T) {
	r := ring.New(1, 1)
	begin(t, r, pusher, []int{7})
	is(t, "a push that makes none yet", r, "in ", 0, 0, 0, 0)
	for range 2 {
		steps(t, r, pusher, 1)
		is(t, "head, and tail, are read", r, "in ", 0, 0, 0, 0)
	}
	steps(t, r, pusher, 1)
	is(t, "the word is written", r, "in ", 0, 0, 0, 7)
	step(t, r, pusher, nil, true, api.NoError)
	is(t, "behind the push", r, "", 1, 0, 1, 7)
	none(t, "behind the push", r, pusher)
	begin(t, r, popper, nil)
	is(t, "a pop that makes none yet", r, "out ", 1, 0, 1, 7)
	for range 3 {
		steps(t, r, popper, 1)
		is(t, "tail, head and the word are read", r, "out ", 1, 0, 1, 7)
	}
	step(t, r, popper, []int{7}, true, api.NoError)
	is(t, "behind the pop", r, "", 0, 1, 1, 7)
	none(t, "behind the pop", r, popper)
	// Head and tail go round behind two.
	push(t, r, []int{8})
	is(t, "behind 8", r, "", 1, 1, 0, 8)
	refused(t, r, pusher)
	is(t, "behind one that is refused", r, "", 1, 1, 0, 8)
	pop(t, r, []int{8})
	is(t, "behind the pop of 8", r, "", 0, 0, 0, 8)
	refused(t, r, popper)
	is(t, "behind one that is refused", r, "", 0, 0, 0, 8)
}

func TestEachAccessOfTwoPlaces(t *testing.T) {
	r := ring.New(2, 2)
	push(t, r, []int{11, 12})
	is(t, "one", r, "", 1, 0, 1, 11, 12, 0, 0)
	begin(t, r, pusher, []int{21, 22})
	steps(t, r, pusher, 2)
	is(t, "both are read", r, "in ", 1, 0, 1, 11, 12, 0, 0)
	steps(t, r, pusher, 1)
	is(t, "a word is written", r, "in ", 1, 0, 1, 11, 12, 21, 0)
	steps(t, r, pusher, 1)
	is(t, "both words are written", r, "in ", 1, 0, 1, 11, 12, 21, 22)
	step(t, r, pusher, nil, true, api.NoError)
	is(t, "two", r, "", 2, 0, 2, 11, 12, 21, 22)
	pop(t, r, []int{11, 12})
	is(t, "one is out", r, "", 1, 1, 2, 11, 12, 21, 22)
	push(t, r, []int{31, 32})
	is(t, "the first place again", r, "", 2, 1, 3, 31, 32, 21, 22)
	refused(t, r, pusher)
	pop(t, r, []int{21, 22})
	is(t, "two are out", r, "", 1, 2, 3, 31, 32, 21, 22)
	push(t, r, []int{41, 42})
	is(t, "tail went round", r, "", 2, 2, 0, 31, 32, 41, 42)
	refused(t, r, pusher)
	pop(t, r, []int{31, 32})
	is(t, "three are out", r, "", 1, 3, 0, 31, 32, 41, 42)
	pop(t, r, []int{41, 42})
	is(t, "head went round", r, "", 0, 0, 0, 31, 32, 41, 42)
	refused(t, r, popper)
}

func TestRoundMoreThanOnce(t *testing.T) {
	for places := 1; places <= 8; places++ {
		for held := range places {
			r := ring.New(places, 1)
			for n := range held {
				push(t, r, []int{n})
			}
			for n := held; n < 5*places+held; n++ {
				push(t, r, []int{n})
				if c := r.Cells(); c[0] != (n-held)%(2*places) || c[1] != (n+1)%(2*places) || r.Count() != held+1 {
					t.Errorf("%d places: behind the push of %d: %v, and %d are held", places, n, c, r.Count())
				}
				pop(t, r, []int{n - held})
				if c := r.Cells(); c[0] != (n-held+1)%(2*places) || c[1] != (n+1)%(2*places) || r.Count() != held {
					t.Errorf("%d places: behind the pop of %d: %v, and %d are held", places, n-held, c, r.Count())
				}
			}
		}
	}
}

func TestWordsThatMayBe(t *testing.T) {
	for words := 1; words <= 6; words++ {
		for i := range words {
			for _, v := range []int{0, 1, 2, 255, 1 << 16, 1 << 30, most - 1, most} {
				r, l := ring.New(2, words), message(1, words)
				l[i] = v
				push(t, r, l)
				pop(t, r, l)
			}
		}
		for _, v := range []int{0, most} {
			r := ring.New(1, words)
			push(t, r, message(1, words))
			pop(t, r, message(1, words))
			push(t, r, filled(words, v))
			pop(t, r, filled(words, v))
		}
	}
}

// unfit are lists that a ring of messages of so many words takes none of.
func unfit(words int) [][]int {
	all := [][]int{nil, {}, filled(100, 0)}
	for n := range 10 {
		if n != words {
			all = append(all, filled(n, 1), filled(n, most), filled(n, -1))
		}
	}
	for _, v := range wrong() {
		for i := range words {
			l := message(9, words)
			l[i] = v
			all = append(all, l)
		}
		all = append(all, filled(words, v))
	}
	return all
}

// unfitAreRefused fails unless each of those is InvalidParam, and changes nothing.
func unfitAreRefused(t *testing.T, r *ring.Ring) {
	t.Helper()
	under, count, cells := busy(r), r.Count(), r.Cells()
	for _, l := range unfit(r.Words()) {
		if e := r.Push(l); e != api.InvalidParam {
			t.Errorf("%d words, under way is %q: Push(%v): %v", r.Words(), under, l, e)
		}
	}
	is(t, "behind what is no message", r, under, count, cells...)
}

func TestPushThatDoesNotBegin(t *testing.T) {
	for words := 1; words <= 6; words++ {
		r := ring.New(2, words)
		unfitAreRefused(t, r)
		none(t, "behind what is no message", r, pusher)
		for made := range words + 3 {
			r := ring.New(2, words)
			begin(t, r, pusher, message(1, words))
			steps(t, r, pusher, made)
			// Of what is no message that is told, though a push is under way, too.
			unfitAreRefused(t, r)
			cells := r.Cells()
			for _, v := range []int{0, 5, most} {
				if e := r.Push(filled(words, v)); e != api.NoAction {
					t.Errorf("%d words, behind %d accesses: Push of %d: %v", words, made, v, e)
				}
			}
			is(t, "behind a second push", r, "in ", 0, cells...)
			// The one that is under way goes on as if nothing had been asked.
			steps(t, r, pusher, words+2-made)
			step(t, r, pusher, nil, true, api.NoError)
			pop(t, r, message(1, words))
		}
	}
}

func TestPopThatDoesNotBegin(t *testing.T) {
	for words := 1; words <= 6; words++ {
		for made := range words + 3 {
			r := ring.New(2, words)
			push(t, r, message(1, words))
			push(t, r, message(2, words))
			begin(t, r, popper, nil)
			steps(t, r, popper, made)
			cells := r.Cells()
			for range 2 {
				if e := r.Pop(); e != api.NoAction {
					t.Errorf("%d words, behind %d accesses: Pop: %v", words, made, e)
				}
			}
			is(t, "behind a second pop", r, "out ", 2, cells...)
			steps(t, r, popper, words+2-made)
			step(t, r, popper, message(1, words), true, api.NoError)
			pop(t, r, message(2, words))
		}
	}
}

func TestSidesAreApart(t *testing.T) {
	r, zero := ring.New(2, 2), make([]int, 6)
	begin(t, r, pusher, []int{5, 6})
	none(t, "a push alone", r, popper)
	begin(t, r, popper, nil)
	is(t, "both", r, "in out ", 0, zero...)
	if !r.Drop(pusher) {
		t.Error("Drop of the push is false")
	}
	none(t, "a pop alone", r, pusher)
	is(t, "a pop alone", r, "out ", 0, zero...)
	begin(t, r, pusher, []int{7, 8})
	if !r.Drop(popper) {
		t.Error("Drop of the pop is false")
	}
	none(t, "the second push alone", r, popper)
	is(t, "the second push alone", r, "in ", 0, zero...)
}

func TestPushThatIsRefused(t *testing.T) {
	for made := range 5 {
		r := ring.New(1, 2)
		push(t, r, message(1, 2))
		begin(t, r, popper, nil)
		steps(t, r, popper, made)
		refused(t, r, pusher)
		is(t, "behind one that is refused", r, "out ", 1, 0, 1, 11, 12)
		none(t, "behind one that is refused", r, pusher)
		refused(t, r, pusher)
		steps(t, r, popper, 4-made)
		step(t, r, popper, message(1, 2), true, api.NoError)
		push(t, r, message(2, 2))
		is(t, "behind one that isn't", r, "", 1, 1, 0, 21, 22)
		pop(t, r, message(2, 2))
	}
}

func TestPopThatIsRefused(t *testing.T) {
	for made := range 5 {
		r := ring.New(1, 2)
		begin(t, r, pusher, message(1, 2))
		steps(t, r, pusher, made)
		cells := r.Cells()
		refused(t, r, popper)
		is(t, "behind one that is refused", r, "in ", 0, cells...)
		none(t, "behind one that is refused", r, popper)
		refused(t, r, popper)
		steps(t, r, pusher, 4-made)
		step(t, r, pusher, nil, true, api.NoError)
		pop(t, r, message(1, 2))
		refused(t, r, popper)
	}
}

func TestWhichAccessTellsHowManyAreHeld(t *testing.T) {
	// Of a push: how many are held is told by its first access.
	r := ring.New(1, 1)
	push(t, r, []int{7})
	begin(t, r, pusher, []int{8})
	pop(t, r, []int{7})
	steps(t, r, pusher, 3)
	step(t, r, pusher, nil, true, api.NoError)
	begin(t, r, pusher, []int{9})
	steps(t, r, pusher, 1)
	pop(t, r, []int{8})
	is(t, "a push that read head ahead of the pop", r, "in ", 0, 0, 0, 8)
	step(t, r, pusher, nil, true, api.NotAvailable)
	push(t, r, []int{9})
	pop(t, r, []int{9})
	// Of a pop, too.
	begin(t, r, popper, nil)
	push(t, r, []int{10})
	steps(t, r, popper, 3)
	step(t, r, popper, []int{10}, true, api.NoError)
	begin(t, r, popper, nil)
	steps(t, r, popper, 1)
	push(t, r, []int{11})
	is(t, "a pop that read tail ahead of the push", r, "out ", 1, 0, 1, 11)
	step(t, r, popper, nil, true, api.NotAvailable)
	pop(t, r, []int{11})
}

func TestDropOfAPush(t *testing.T) {
	// What is in the memory behind so many accesses of a push of 21, 22.
	for made, cells := range [][]int{
		{0, 1, 11, 12, 0, 0},
		{0, 1, 11, 12, 0, 0},
		{0, 1, 11, 12, 0, 0},
		{0, 1, 11, 12, 21, 0},
		{0, 1, 11, 12, 21, 22},
	} {
		r := ring.New(2, 2)
		push(t, r, []int{11, 12})
		begin(t, r, pusher, []int{21, 22})
		steps(t, r, pusher, made)
		if !r.Drop(pusher) {
			t.Errorf("behind %d accesses: Drop is false", made)
		}
		is(t, "behind Drop", r, "", 1, cells...)
		none(t, "behind Drop", r, pusher)
		push(t, r, []int{31, 32})
		is(t, "behind the next push", r, "", 2, 0, 2, 11, 12, 31, 32)
		refused(t, r, pusher)
		pop(t, r, []int{11, 12})
		pop(t, r, []int{31, 32})
		refused(t, r, popper)
	}
}

func TestDropOfAPop(t *testing.T) {
	for made := range 5 {
		r := ring.New(2, 2)
		push(t, r, []int{11, 12})
		push(t, r, []int{21, 22})
		begin(t, r, popper, nil)
		steps(t, r, popper, made)
		if !r.Drop(popper) {
			t.Errorf("behind %d accesses: Drop is false", made)
		}
		is(t, "behind Drop", r, "", 2, 0, 2, 11, 12, 21, 22)
		none(t, "behind Drop", r, popper)
		refused(t, r, pusher)
		pop(t, r, []int{11, 12})
		is(t, "behind the next pop", r, "", 1, 1, 2, 11, 12, 21, 22)
		pop(t, r, []int{21, 22})
		refused(t, r, popper)
	}
}

func TestDropBehindOneAccessOfWhatWouldBeRefused(t *testing.T) {
	r := ring.New(1, 1)
	for made := range 2 {
		begin(t, r, popper, nil)
		steps(t, r, popper, made)
		if !r.Drop(popper) {
			t.Error("Drop of a pop is false")
		}
	}
	refused(t, r, popper)
	push(t, r, []int{7})
	for made := range 2 {
		begin(t, r, pusher, []int{8})
		steps(t, r, pusher, made)
		if !r.Drop(pusher) {
			t.Error("Drop of a push is false")
		}
	}
	refused(t, r, pusher)
	is(t, "behind all", r, "", 1, 0, 1, 7)
}

func TestReset(t *testing.T) {
	// Each side has none under way (below 0), or one that has made so many accesses.
	for in := -1; in < 5; in++ {
		for out := -1; out < 5; out++ {
			r := ring.New(3, 2)
			for n := range 2 {
				push(t, r, message(n, 2))
			}
			if in >= 0 {
				begin(t, r, pusher, message(3, 2))
				steps(t, r, pusher, in)
			}
			if out >= 0 {
				begin(t, r, popper, nil)
				steps(t, r, popper, out)
			}
			for range 2 {
				r.Reset()
				is(t, "behind Reset", r, "", 0, make([]int, 8)...)
				none(t, "behind Reset", r, pusher)
				none(t, "behind Reset", r, popper)
				if r.Places() != 3 || r.Words() != 2 {
					t.Errorf("behind Reset: %d places, %d words", r.Places(), r.Words())
				}
			}
			full(t, r)
		}
	}
}

func TestWhatIsHandedIn(t *testing.T) {
	for words := 1; words <= 6; words++ {
		// It is turned behind so many of the push's accesses.
		for made := range words + 3 {
			r := ring.New(2, words)
			room := append(message(1, words), 98, 99)
			begin(t, r, pusher, room[:words])
			steps(t, r, pusher, made)
			if !slices.Equal(room, append(message(1, words), 98, 99)) {
				t.Errorf("behind %d accesses it is %v", made, room)
			}
			for i := range room {
				room[i] = -7
			}
			steps(t, r, pusher, words+2-made)
			step(t, r, pusher, nil, true, api.NoError)
			pop(t, r, message(1, words))
			if !slices.Equal(room, filled(words+2, -7)) {
				t.Errorf("what was turned is %v", room)
			}
		}
	}
}

func TestListsAreNewMemory(t *testing.T) {
	for words := 1; words <= 6; words++ {
		r := ring.New(2, words)
		told := func(n int) []int {
			push(t, r, message(n, words))
			begin(t, r, popper, nil)
			steps(t, r, popper, words+2)
			l, _, _ := r.Step(popper)
			return l
		}
		a, b := told(1), told(2)
		c, d := r.Cells(), r.Cells()
		want := slices.Concat([]int{2, 2}, message(1, words), message(2, words))
		for i := range a {
			a[i] = 97
		}
		for i := range c {
			c[i] = 1
		}
		_, _ = append(a, 98), append(c, 98)
		if !slices.Equal(b, message(2, words)) || !slices.Equal(d, want) {
			t.Errorf("other lists turned: %v, %v", b, d)
		}
		is(t, "behind lists that were turned", r, "", 0, want...)
		for n := 3; n < 9; n++ {
			if l := told(n); !slices.Equal(l, message(n, words)) {
				t.Errorf("a pop tells %v, not %v", l, message(n, words))
			}
		}
		r.Reset()
		if !slices.Equal(a, filled(words, 97)) || !slices.Equal(b, message(2, words)) || !slices.Equal(d, want) {
			t.Errorf("lists turned with the ring: %v, %v, %v", a, b, d)
		}
	}
}

func TestRingsShareNothing(t *testing.T) {
	a, b := ring.New(1, 1), ring.New(1, 1)
	begin(t, a, pusher, []int{5})
	none(t, "the other one", b, pusher)
	begin(t, b, popper, nil)
	none(t, "the one", a, popper)
	steps(t, a, pusher, 3)
	step(t, a, pusher, nil, true, api.NoError)
	steps(t, b, popper, 1)
	step(t, b, popper, nil, true, api.NotAvailable)
	b.Reset()
	is(t, "the other one", b, "", 0, 0, 0, 0)
	is(t, "the one", a, "", 1, 0, 1, 5)
}

func TestNil(t *testing.T) {
	var r *ring.Ring
	lists := unfit(1)
	for n := range 8 {
		lists = append(lists, message(1, n), filled(n, most))
	}
	for range 2 {
		for _, l := range lists {
			if e := r.Push(l); e != api.InvalidParam {
				t.Errorf("nil: Push(%v): %v", l, e)
			}
		}
		if e := r.Pop(); e != api.NoAction {
			t.Errorf("nil: Pop: %v", e)
		}
		for _, side := range []bool{pusher, popper} {
			none(t, "nil", r, side)
		}
		r.Reset()
		is(t, "nil", r, "", 0)
		if r.Places() != 0 || r.Words() != 0 {
			t.Errorf("nil: %d places, %d words", r.Places(), r.Words())
		}
	}
}

func TestRingThatNewDidNotMake(t *testing.T) {
	// No chapter speaks of it: it has but to end, and not to panic (T0).
	r := new(ring.Ring)
	for range 2 {
		for n := range 8 {
			r.Push(filled(n, 1))
			r.Pop()
			for range 3 {
				r.Count()
				r.Cells()
				r.Step(pusher)
				r.Step(popper)
			}
			r.Drop(pusher)
			r.Drop(popper)
		}
		r.Reset()
	}
}
