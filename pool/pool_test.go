package pool_test

import (
	"math"
	"slices"
	"testing"

	"empennage/api"
	"empennage/pool"
)

const most = 64

// owners are some of any number; none of them is -4 or 4.
func owners() []int {
	return []int{
		0, 1, -1, 2, -2, 7, 63, 64, 65, -64, 255, 256, -256, 1 << 31, -1 << 31, 1 << 32, 1<<32 + 1, -1 << 32,
		math.MaxInt - 1, math.MaxInt, math.MinInt + 1, math.MinInt,
	}
}

// outside are slots that a pool of so many has none of.
func outside(slots int) []int {
	l := append(owners(), slots, slots+1, -slots, 128, 1<<32+2, math.MaxInt-2)
	return slices.DeleteFunc(l, func(n int) bool { return n >= 0 && n < slots })
}

// slot is what a slot is to be.
type slot struct {
	owner int
	taken bool
	turn  int
}

// free is a slot that was taken so often.
func free(turn int) slot { return slot{turn: turn} }

// owned is that owner's slot that was taken so often.
func owned(owner, turn int) slot { return slot{owner, true, turn} }

// filled is so many of that.
func filled(n int, s slot) []slot { return slices.Repeat([]slot{s}, n) }

// of is which of the slots are that owner's.
func of(slots []slot, owner int) []int {
	var l []int
	for i, s := range slots {
		if s.taken && s.owner == owner {
			l = append(l, i)
		}
	}
	return l
}

// is fails unless the pool's slots are these.
func is(t *testing.T, what string, p *pool.Pool, want ...slot) {
	t.Helper()
	who, left := append(owners(), 4, -4), 0
	for i, s := range want {
		if !s.taken {
			left++
		} else if !slices.Contains(who, s.owner) {
			who = append(who, s.owner)
		}
		if o, taken := p.Owner(i); o != s.owner || taken != s.taken || p.Turn(i) != s.turn {
			t.Errorf("%s: the slot %d is %d, %v, its turn %d, not %v", what, i, o, taken, p.Turn(i), s)
		}
	}
	for _, o := range who {
		if got, l := p.Of(o), of(want, o); !slices.Equal(got, l) {
			t.Errorf("%s: Of(%d) = %v, not %v", what, o, got, l)
		}
	}
	if p.Len() != len(want) || p.Free() != left {
		t.Errorf("%s: %d slots, %d free, not %d, %d", what, p.Len(), p.Free(), len(want), left)
	}
	for _, i := range outside(len(want)) {
		if o, taken := p.Owner(i); o != 0 || taken || p.Turn(i) != 0 {
			t.Errorf("%s: the slot %d that isn't there is %d, %v, its turn %d", what, i, o, taken, p.Turn(i))
		}
	}
}

// take fails unless that owner takes that slot.
func take(t *testing.T, p *pool.Pool, owner, slot int) {
	t.Helper()
	if got, e := p.Take(owner); got != slot || e != api.NoError {
		t.Errorf("Take(%d) = %d, %v, not %d", owner, got, e, slot)
	}
}

// full fails unless nobody takes any.
func full(t *testing.T, p *pool.Pool) {
	t.Helper()
	for _, o := range owners() {
		if got, e := p.Take(o); got != -1 || e != api.ErrFull {
			t.Errorf("Take(%d) of none = %d, %v", o, got, e)
		}
	}
}

// give fails unless that is what it tells.
func give(t *testing.T, p *pool.Pool, slot, owner int, want api.Errno) {
	t.Helper()
	if e := p.Give(slot, owner); e != want {
		t.Errorf("Give(%d, %d): %v, not %v", slot, owner, e, want)
	}
}

// let fails unless that owner had so many.
func let(t *testing.T, p *pool.Pool, owner, want int) {
	t.Helper()
	if n := p.Let(owner); n != want {
		t.Errorf("Let(%d) = %d, not %d", owner, n, want)
	}
}

// taken is a pool of which each slot is taken, in the row of these owners.
func taken(t *testing.T, owners ...int) *pool.Pool {
	t.Helper()
	p := pool.New(len(owners))
	for i, o := range owners {
		take(t, p, o, i)
	}
	return p
}

func TestNewOfAnyNumber(t *testing.T) {
	for n := range most + 1 {
		is(t, "a new pool", pool.New(n), filled(n, free(0))...)
	}
	for _, n := range []int{65, 66, 127, 128, 255, 256, 257, 1 << 31, 1 << 32, 1<<32 + 5, math.MaxInt - 1, math.MaxInt} {
		is(t, "a new pool of too many", pool.New(n), filled(most, free(0))...)
	}
	for _, n := range []int{-1, -2, -63, -64, -65, -255, -1 << 32, -1<<32 + 5, math.MinInt + 1, math.MinInt} {
		is(t, "a new pool of too few", pool.New(n))
	}
}

func TestExample(t *testing.T) {
	p := pool.New(2)
	take(t, p, 5, 0)
	take(t, p, 6, 1)
	give(t, p, 0, 5, api.NoError)
	take(t, p, 7, 0)
	is(t, "behind the example", p, owned(7, 2), owned(6, 1))
}

func TestTakeUntilNoneIsFree(t *testing.T) {
	for n := range most + 1 {
		p, want := pool.New(n), filled(n, free(0))
		for i := range n {
			o := owners()[i%len(owners())]
			take(t, p, o, i)
			want[i] = owned(o, 1)
			is(t, "behind a Take", p, want...)
		}
		full(t, p)
		is(t, "behind a Take that is refused", p, want...)
	}
	for _, n := range []int{-1, math.MinInt} {
		p := pool.New(n)
		full(t, p)
		is(t, "a pool of too few", p)
	}
	for _, n := range []int{most + 1, math.MaxInt} {
		p := pool.New(n)
		for i := range most {
			take(t, p, 0, i)
		}
		full(t, p)
		is(t, "a pool of too many", p, filled(most, owned(0, 1))...)
	}
}

func TestTheLowestFreeSlotIsTaken(t *testing.T) {
	for n := 1; n <= most; n++ {
		places := []int{0, n / 2, n - 1}
		for some := range 8 {
			var given []int
			for i, place := range places {
				if some>>i%2 == 1 && !slices.Contains(given, place) {
					given = append(given, place)
				}
			}
			// Those that are given last are taken first, too, if they are the lowest.
			for range 2 {
				p, want := taken(t, make([]int, n)...), filled(n, owned(0, 1))
				for _, place := range given {
					give(t, p, place, 0, api.NoError)
					want[place] = free(1)
				}
				is(t, "behind Gives", p, want...)
				for _, place := range slices.Sorted(slices.Values(given)) {
					take(t, p, 9, place)
					want[place] = owned(9, 2)
				}
				full(t, p)
				is(t, "behind Takes", p, want...)
				slices.Reverse(given)
			}
		}
	}
}

func TestEachSlotThatWasGivenIsTakenAgain(t *testing.T) {
	for n := 1; n <= most; n++ {
		p, want := taken(t, make([]int, n)...), filled(n, owned(0, 1))
		for i := n - 1; i >= 0; i-- {
			give(t, p, i, 0, api.NoError)
			take(t, p, i+10, i)
			want[i] = owned(i+10, 2)
			full(t, p)
			is(t, "behind the one that was given", p, want...)
		}
	}
}

func TestOwnersOfAnyNumber(t *testing.T) {
	all := owners()
	p := taken(t, all...)
	var want []slot
	for _, o := range all {
		want = append(want, owned(o, 1))
	}
	is(t, "a slot of each owner", p, want...)
	for i, o := range all {
		for _, other := range all {
			if other != o {
				give(t, p, i, other, api.NotAvailable)
			}
		}
	}
	is(t, "behind refused Gives", p, want...)
	for i, o := range all {
		let(t, p, o, 1)
		want[i] = free(1)
		is(t, "behind a Let", p, want...)
	}
	slices.Reverse(all)
	for i, o := range all {
		take(t, p, o, i)
		want[i] = owned(o, 2)
		give(t, p, i, o+1, api.NotAvailable)
		give(t, p, i, o-1, api.NotAvailable)
		give(t, p, i, -o-1, api.NotAvailable)
	}
	is(t, "a slot of each owner again", p, want...)
	for i, o := range all {
		give(t, p, i, o, api.NoError)
		want[i] = free(2)
		is(t, "behind a Give", p, want...)
	}
}

func TestOneOwnerOfManySlots(t *testing.T) {
	for _, o := range owners() {
		p := taken(t, o, 4, o, o, 4)
		is(t, "slots of two", p, owned(o, 1), owned(4, 1), owned(o, 1), owned(o, 1), owned(4, 1))
		give(t, p, 2, o, api.NoError)
		give(t, p, 1, o, api.NotAvailable)
		is(t, "one is given", p, owned(o, 1), owned(4, 1), free(1), owned(o, 1), owned(4, 1))
		take(t, p, o, 2)
		let(t, p, o, 3)
		is(t, "all are let", p, free(1), owned(4, 1), free(2), free(1), owned(4, 1))
	}
}

func TestGiveOfASlotThatIsNotThere(t *testing.T) {
	for _, n := range []int{0, 1, 2, 5, 63, 64} {
		for _, o := range owners() {
			none, all := pool.New(n), taken(t, slices.Repeat([]int{o}, n)...)
			for _, i := range outside(n) {
				for _, by := range []int{o, 4} {
					give(t, none, i, by, api.ErrRange)
					give(t, all, i, by, api.ErrRange)
				}
			}
			is(t, "none is taken", none, filled(n, free(0))...)
			is(t, "all are taken", all, filled(n, owned(o, 1))...)
		}
	}
}

func TestGiveOfAFreeSlot(t *testing.T) {
	for n := 1; n <= most; n++ {
		p := pool.New(n)
		for i := range n {
			for _, o := range owners() {
				give(t, p, i, o, api.ErrEmpty)
			}
		}
		is(t, "a new pool", p, filled(n, free(0))...)
	}
	// What was another owner's, and is free, is free above all.
	for _, was := range owners() {
		p := taken(t, was, 4, was)
		give(t, p, 0, was, api.NoError)
		let(t, p, 4, 1)
		for _, o := range append(owners(), 4) {
			give(t, p, 0, o, api.ErrEmpty)
			give(t, p, 1, o, api.ErrEmpty)
		}
		is(t, "two are free", p, free(1), free(1), owned(was, 1))
	}
}

func TestGiveOfEachSlot(t *testing.T) {
	for n := 1; n <= most; n++ {
		for i := range n {
			p, want := taken(t, make([]int, n)...), filled(n, owned(0, 1))
			give(t, p, i, 1, api.NotAvailable)
			give(t, p, i, -1, api.NotAvailable)
			is(t, "another owner's", p, want...)
			give(t, p, i, 0, api.NoError)
			want[i] = free(1)
			give(t, p, i, 0, api.ErrEmpty)
			give(t, p, i, 1, api.ErrEmpty)
			is(t, "one's own", p, want...)
		}
	}
}

func TestLet(t *testing.T) {
	for _, o := range owners() {
		for n := range most + 1 {
			p := pool.New(n)
			let(t, p, o, 0)
			is(t, "of none, as all are free", p, filled(n, free(0))...)
			p = taken(t, slices.Repeat([]int{4}, n)...)
			let(t, p, o, 0)
			is(t, "of none, as all are another owner's", p, filled(n, owned(4, 1))...)
			p = taken(t, slices.Repeat([]int{o}, n)...)
			let(t, p, o, n)
			let(t, p, o, 0)
			is(t, "of all", p, filled(n, free(1))...)
		}
	}
}

func TestLetOfSome(t *testing.T) {
	const n = 5
	for some := range 1 << n {
		for _, o := range owners() {
			p, want, count := pool.New(n), make([]slot, n), 0
			for i := range n {
				who := 4
				if some>>i%2 == 1 {
					who, count = o, count+1
				}
				take(t, p, who, i)
				want[i] = owned(who, 1)
			}
			let(t, p, -4, 0)
			is(t, "of one that has none", p, want...)
			let(t, p, o, count)
			for i, s := range want {
				if s.owner == o {
					want[i] = free(1)
				}
			}
			is(t, "of some", p, want...)
			let(t, p, 4, n-count)
			is(t, "of the others", p, filled(n, free(1))...)
		}
	}
}

func TestLetOfOneOfMany(t *testing.T) {
	for i := range most {
		all := make([]int, most)
		all[i] = 7
		p, want := taken(t, all...), filled(most, owned(0, 1))
		let(t, p, 7, 1)
		want[i] = free(1)
		is(t, "of one", p, want...)
		take(t, p, 8, i)
	}
}

func TestTurnIsHowOftenItWasTaken(t *testing.T) {
	p := pool.New(3)
	take(t, p, 1, 0)
	for turn := 1; turn <= 1000; turn++ {
		take(t, p, 2, 1)
		is(t, "it is taken", p, owned(1, 1), owned(2, turn), free(0))
		if turn%2 == 0 {
			give(t, p, 1, 2, api.NoError)
		} else {
			let(t, p, 2, 1)
		}
		is(t, "it is given", p, owned(1, 1), free(turn), free(0))
	}
	give(t, p, 0, 2, api.NotAvailable)
	give(t, p, 1, 2, api.ErrEmpty)
	give(t, p, 3, 2, api.ErrRange)
	is(t, "behind refused Gives", p, owned(1, 1), free(1000), free(0))
}

func TestTurnGoesOn(t *testing.T) {
	p := pool.New(1)
	for n := range 1<<16 + 3 {
		p.Take(n)
		p.Give(0, n)
	}
	is(t, "taken often", p, free(1<<16+3))
}

func TestOwnerZeroIsToldApartFromFree(t *testing.T) {
	p := taken(t, 0, 0, 1)
	give(t, p, 1, 0, api.NoError)
	is(t, "0 has one, one is free", p, owned(0, 1), free(1), owned(1, 1))
	give(t, p, 1, 0, api.ErrEmpty)
	give(t, p, 0, 1, api.NotAvailable)
	give(t, p, 2, 0, api.NotAvailable)
	let(t, p, 0, 1)
	let(t, p, 0, 0)
	is(t, "0 has none", p, free(1), free(1), owned(1, 1))
	take(t, p, 0, 0)
	is(t, "0 has one again", p, owned(0, 2), free(1), owned(1, 1))
}

func TestListsAreNewMemory(t *testing.T) {
	for n := 1; n <= most; n++ {
		p := taken(t, slices.Repeat([]int{7}, n)...)
		var all []int
		for i := range n {
			all = append(all, i)
		}
		a, b := p.Of(7), p.Of(7)
		for i := range a {
			a[i] = -3
		}
		_ = append(a, 98)
		if !slices.Equal(b, all) {
			t.Errorf("the other list turned: %v", b)
		}
		is(t, "behind a list that was turned", p, filled(n, owned(7, 1))...)
		let(t, p, 7, n)
		take(t, p, 8, 0)
		if !slices.Equal(a, slices.Repeat([]int{-3}, n)) || !slices.Equal(b, all) {
			t.Errorf("lists turned with the pool: %v, %v", a, b)
		}
	}
}

func TestPoolsShareNothing(t *testing.T) {
	a, b := pool.New(2), pool.New(2)
	take(t, a, 5, 0)
	is(t, "the other one", b, free(0), free(0))
	take(t, b, 6, 0)
	take(t, b, 5, 1)
	is(t, "the one", a, owned(5, 1), free(0))
	let(t, b, 5, 1)
	give(t, b, 0, 6, api.NoError)
	is(t, "the one", a, owned(5, 1), free(0))
	is(t, "the other one", b, free(1), free(1))
}

func TestNil(t *testing.T) {
	var p *pool.Pool
	for range 2 {
		full(t, p)
		for _, o := range owners() {
			for _, i := range outside(0) {
				give(t, p, i, o, api.ErrRange)
			}
			let(t, p, o, 0)
		}
		is(t, "nil", p)
	}
}

func TestPoolThatNewDidNotMake(t *testing.T) {
	// No chapter speaks of it: it has but to end, and not to panic (T0).
	p := new(pool.Pool)
	for _, i := range append(outside(0), 0) {
		p.Take(i)
		p.Owner(i)
		p.Turn(i)
		p.Of(i)
		p.Give(i, i)
		p.Let(i)
	}
	p.Free()
	p.Len()
}
