package bucket_test

import (
	"testing"

	"empennage/bucket"
)

// P11.2 is asked by the tests of this file, by what a bucket tells alone.

// watch holds a bucket against what was taken out of it.
type watch struct {
	t *testing.T
	b *bucket.Bucket
	size
	full  int   // the round in which it was made, or made full, last
	takes []int // in which rounds tokens were taken since
}

func newWatch(t *testing.T, s size) *watch {
	return &watch{t: t, b: bucket.New(s.rate, s.cap), size: s}
}

// call makes the call, and fails if the bucket has more than its cap, or less than none, or if more than Most were taken.
func (w *watch) call(c call) {
	_, is := answer(w.b, c)
	now := w.b.Round()
	switch {
	case c.kind == aReset:
		w.full, w.takes = now, nil
	case c.kind == aTake && is:
		w.takes = append(w.takes, now)
	}
	if n := w.b.Tokens(now); n < 0 || n > w.cap {
		w.t.Errorf("behind %+v: %d tokens of %d", c, n, w.cap)
	}
	w.most(w.full, len(w.takes))
	// At each of these rounds it had no more than a full one has.
	for i, from := range w.takes {
		w.most(from, len(w.takes)-i)
	}
}

// most fails if so many are more than may be taken from that round to the bucket's own.
func (w *watch) most(from, taken int) {
	if n := bucket.Most(w.rate, w.cap, w.b.Round()-from); taken > n {
		w.t.Errorf("%d taken from the round %d to %d: Most tells %d", taken, from, w.b.Round(), n)
	}
}

func TestNoMoreThanMostInEachRow(t *testing.T) {
	t.Parallel()
	for s, row := range few() {
		w := newWatch(t, s)
		for _, c := range row {
			w.call(c)
		}
		if t.Failed() {
			t.Fatalf("%+v: the row %+v", s, row)
		}
	}
}

func TestNoMoreThanMostInDrawnRows(t *testing.T) {
	t.Parallel()
	for s, row := range drawnRows(57) {
		w := newWatch(t, s)
		for i, c := range row {
			w.call(c)
			if t.Failed() {
				t.Fatalf("%+v: the row %+v", s, row[:i+1])
			}
		}
	}
}

// emptied takes all that the bucket has in that round, and tells how many these are.
func emptied(b *bucket.Bucket, round int) int {
	n := 0
	for n < 100 && b.Take(round) {
		n++
	}
	return n
}

func TestAllThatComeCanBeTaken(t *testing.T) {
	for rate := range 65 {
		for cap := 1; cap <= 64; cap++ {
			for _, first := range []int{0, 5, top - 10} {
				b := bucket.New(rate, cap)
				b.Reset(first)
				for later, taken := 0, 0; later <= 10; later++ {
					taken += emptied(b, first+later)
					// What comes above the cap is lost: where the rate is no more than that, nothing is.
					if want := cap + min(rate, cap)*later; taken != want {
						t.Errorf("rate %d, cap %d, %d rounds behind %d: %d taken, not %d", rate, cap, later, first, taken, want)
					}
					if most := bucket.Most(rate, cap, later); taken > most || rate <= cap && taken != most {
						t.Errorf("rate %d, cap %d: %d taken in %d rounds, Most is %d", rate, cap, taken, later, most)
					}
				}
			}
		}
	}
}
