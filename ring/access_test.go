package ring

import (
	"slices"
	"testing"

	"empennage/api"
)

// These tests look into the ring, since no call tells which cell an access reads.

// count fails unless the call makes so many accesses of the memory.
func count(t *testing.T, what string, r *Ring, accesses int, call func()) {
	t.Helper()
	was := r.mem.Count()
	call()
	if n := r.mem.Count() - was; n != accesses {
		t.Errorf("%s makes %d accesses, not %d", what, n, accesses)
	}
}

// beginOf begins a push of the list, or else a pop, unless one is under way.
func beginOf(r *Ring, push bool, l []int) {
	if push {
		r.Push(l)
	} else {
		r.Pop()
	}
}

func TestEachStepIsOneAccess(t *testing.T) {
	for places := 1; places <= 8; places++ {
		for words := 1; words <= 6; words++ {
			r, l := New(places, words), slices.Repeat([]int{7}, words)
			// The first pop is refused; of one place the last push, too.
			for _, push := range []bool{false, true, false, true, true} {
				for over := false; !over; {
					count(t, "what makes no step", r, 0, func() {
						beginOf(r, push, l)
						r.Push(l[1:])
						r.Drop(!push)
						r.Step(!push)
						r.Busy(push)
						r.Count()
						r.Places()
						r.Words()
						r.Cells()
					})
					count(t, "a step", r, 1, func() { _, over, _ = r.Step(push) })
				}
			}
			count(t, "Reset", r, 0, r.Reset)
		}
	}
}

// probe makes accesses, while all cells but the one that each is of have what it must not read.
type probe struct {
	t    *testing.T
	r    *Ring
	push bool
	junk []int
}

// newProbe is one of a ring whose head and tail are these, of which nothing is in the memory.
func newProbe(t *testing.T, r *Ring, push bool, head, tail int) *probe {
	// What is beside the true ones would be one message fewer, or one more.
	p := &probe{t, r, push, []int{(head + 1) % (2 * r.places), (tail + 1) % (2 * r.places)}}
	for i := 2; i < r.mem.Len(); i++ {
		p.junk = append(p.junk, 900+i)
	}
	return p
}

// step makes an access while that cell alone has the word, and fails unless it tells this, and the cell alone has the other word then.
func (p *probe) step(cell, word, then int, told []int, over bool, want api.Errno) {
	p.t.Helper()
	for i, v := range p.junk {
		p.r.mem.Write(i, v)
	}
	p.r.mem.Write(cell, word)
	l, is, e := p.r.Step(p.push)
	if !slices.Equal(l, told) || is != over || e != want {
		p.t.Fatalf("%d places, %d words: the access of the cell %d (%v): %v, %v, %v, not %v, %v, %v", p.r.places, p.r.words, cell, p.push, l, is, e, told, over, want)
	}
	cells := slices.Clone(p.junk)
	cells[cell] = then
	if got := p.r.Cells(); !slices.Equal(got, cells) {
		p.t.Fatalf("%d places, %d words: behind the access of the cell %d (%v): %v, not %v", p.r.places, p.r.words, cell, p.push, got, cells)
	}
}

// reads is an access that reads the word of that cell, and isn't the last one.
func (p *probe) reads(cell, word int) {
	p.t.Helper()
	p.step(cell, word, word, nil, false, api.NoError)
}

// probed calls what probes a ring of each size, from each head on, with each number of messages.
func probed(call func(r *Ring, head, held int)) {
	for places := 1; places <= 8; places++ {
		for words := 1; words <= 6; words++ {
			for head := range 2 * places {
				for held := range places + 1 {
					call(New(places, words), head, held)
				}
			}
		}
	}
}

func TestWhichCellEachAccessOfAPushIsOf(t *testing.T) {
	probed(func(r *Ring, head, held int) {
		tail := (head + held) % (2 * r.places)
		p := newProbe(t, r, true, head, tail)
		var l []int
		for i := range r.words {
			l = append(l, 100+i)
		}
		r.Push(l)
		p.reads(0, head)
		if held == r.places {
			p.step(1, tail, tail, nil, true, api.NotAvailable)
			return
		}
		p.reads(1, tail)
		for i, v := range l {
			cell := 2 + tail%r.places*r.words + i
			p.step(cell, p.junk[cell], v, nil, false, api.NoError)
		}
		p.step(1, p.junk[1], (tail+1)%(2*r.places), nil, true, api.NoError)
	})
}

func TestWhichCellEachAccessOfAPopIsOf(t *testing.T) {
	probed(func(r *Ring, head, held int) {
		tail := (head + held) % (2 * r.places)
		p := newProbe(t, r, false, head, tail)
		r.Pop()
		p.reads(1, tail)
		if held == 0 {
			p.step(0, head, head, nil, true, api.NotAvailable)
			return
		}
		p.reads(0, head)
		var l []int
		for i := range r.words {
			p.reads(2+head%r.places*r.words+i, 100+i)
			l = append(l, 100+i)
		}
		p.step(0, p.junk[0], (head+1)%(2*r.places), l, true, api.NoError)
	})
}
