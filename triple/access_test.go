package triple

import (
	"slices"
	"testing"

	"empennage/api"
)

// These tests look into the register, since no call tells when a word is read: the reader's own message is the same all along.

// count fails unless the call makes so many accesses of the memory.
func count(t *testing.T, what string, r *Register, accesses int, call func()) {
	t.Helper()
	was := r.mem.Count()
	call()
	if n := r.mem.Count() - was; n != accesses {
		t.Errorf("%s makes %d accesses, not %d", what, n, accesses)
	}
}

func TestEachStepIsOneAccess(t *testing.T) {
	for words := 1; words <= 6; words++ {
		r := New(words)
		l := slices.Repeat([]int{7}, words)
		for _, writer := range []bool{true, false, false} {
			count(t, "what makes no step", r, 0, func() {
				r.Drop(true)
				r.Drop(false)
				r.Step(true)
				r.Step(false)
				r.Write(append(l, 7))
				r.Write(l)
				r.Read()
				r.Cells()
				r.Own(writer)
				r.Busy(writer)
				r.Words()
			})
			for r.Busy(writer) {
				count(t, "a step", r, 1, func() { r.Step(writer) })
			}
		}
	}
}

func TestEachWordIsReadAtItsOwnAccess(t *testing.T) {
	for words := 1; words <= 6; words++ {
		for _, ahead := range []int{2, 1} {
			r := New(words)
			r.Write(slices.Repeat([]int{7}, words))
			for r.Busy(true) {
				r.Step(true)
			}
			if ahead == 1 {
				r.Read()
				for r.Busy(false) {
					r.Step(false)
				}
			}
			r.Read()
			for range ahead {
				r.Step(false)
			}
			readMarked(t, r)
		}
	}
}

// readMarked reads the words of a read that comes to them, and fails unless it tells those that each one's cell has at its own access alone.
func readMarked(t *testing.T, r *Register) {
	t.Helper()
	var told, want []int
	for i := range r.Words() {
		at := 1 + r.Own(false)*r.Words() + i
		want = append(want, 100+i)
		r.mem.Write(at, 100+i)
		l, last, e := r.Step(false)
		r.mem.Write(at, 7)
		if last != (i == r.Words()-1) || e != api.NoError {
			t.Errorf("the access of the word %d: %v, %v", i, last, e)
		}
		told = l
	}
	if !slices.Equal(told, want) {
		t.Errorf("the read tells %v, not %v", told, want)
	}
}
