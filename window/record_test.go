package window_test

import (
	"math/big"
	"testing"

	"empennage/api"
	"empennage/window"
)

// held is whose a tick is, and whether it is anyone's.
type held struct {
	owner int
	is    bool
}

// record is whose the ticks are of a config, which it goes through one by one from a frame's first on; it asks nothing of the packages below.
type record struct {
	may    bool
	frame  []held
	places []int // of the queuing channels
}

// newRecord is that of a config; the test says whether it may be.
func newRecord(c api.Config, may bool) *record {
	r := &record{may: may}
	if !may {
		return r
	}
	for phase := range c.Frame {
		r.frame = append(r.frame, holds(c, phase))
	}
	for place, k := range c.Channels {
		if k.Kind == api.Queuing {
			r.places = append(r.places, place)
		}
	}
	return r
}

// holds goes through all ticks of all windows.
func holds(c api.Config, phase int) held {
	for _, w := range c.Windows {
		for n := range w.Len {
			if w.Start+n == phase {
				return held{w.Owner, true}
			}
		}
	}
	return held{}
}

// at is whose the tick is; it isn't below 0, but may be above 2^62.
func (r *record) at(tick int) held { return r.frame[tick%len(r.frame)] }

// has tells whether any tick of a frame is that owner's.
func (r *record) has(owner int) bool { return r.Count(owner) > 0 }

func (r *record) Whose(now int) (int, bool) {
	if !r.may {
		return 0, false
	}
	h := r.at(cut(now))
	return h.owner, h.is
}

func (r *record) Count(owner int) int {
	n := 0
	for _, h := range r.frame {
		if h == (held{owner, true}) {
			n++
		}
	}
	return n
}

func (r *record) Before(owner, now int) int {
	if !r.may {
		return 0
	}
	tick := cut(now)
	frames := tick / len(r.frame)
	n := frames * r.Count(owner)
	for t := frames * len(r.frame); t < tick; t++ {
		if r.at(t) == (held{owner, true}) {
			n++
		}
	}
	return n
}

func (r *record) Until(owner, now int) int {
	if !r.has(owner) {
		return -1
	}
	tick := cut(now)
	for r.at(tick) != (held{owner, true}) {
		tick++
	}
	return cut(tick)
}

func (r *record) Nth(owner, n int) int {
	if !r.has(owner) {
		return -1
	}
	frames, left := cut(n)/r.Count(owner), cut(n)%r.Count(owner)
	begin := new(big.Int).Mul(big.NewInt(int64(frames)), big.NewInt(int64(len(r.frame))))
	if begin.Cmp(big.NewInt(top)) > 0 {
		return top
	}
	tick := int(begin.Int64())
	for ; left > 0 || r.at(tick) != (held{owner, true}); tick++ {
		if r.at(tick) == (held{owner, true}) {
			left--
		}
	}
	return cut(tick)
}

func (r *record) Serves(now int) (int, bool) {
	if who, is := r.Whose(now); !is || who != api.Router || len(r.places) == 0 {
		return 0, false
	}
	return r.places[r.Before(api.Router, now)%len(r.places)], true
}

// The kinds of calls.
const (
	aWhose = iota
	aCount
	aBefore
	anUntil
	aNth
	aServe
	kinds
)

// call is one of a config; n is a tick, or of Nth which one.
type call struct{ kind, owner, n int }

// told is what a call answers: true in the place of what it doesn't.
type told struct {
	n  int
	is bool
}

// answer makes the call.
func answer(c api.Config, x call) told {
	switch x.kind {
	case aWhose:
		n, is := window.Whose(c, x.n)
		return told{n, is}
	case aCount:
		return told{window.Count(c, x.owner), true}
	case aBefore:
		return told{window.Before(c, x.owner, x.n), true}
	case anUntil:
		return told{window.Until(c, x.owner, x.n), true}
	case aNth:
		return told{window.Nth(c, x.owner, x.n), true}
	}
	n, is := window.Serves(c, x.n)
	return told{n, is}
}

// wants is what the call is to answer.
func (r *record) wants(x call) told {
	switch x.kind {
	case aWhose:
		n, is := r.Whose(x.n)
		return told{n, is}
	case aCount:
		return told{r.Count(x.owner), true}
	case aBefore:
		return told{r.Before(x.owner, x.n), true}
	case anUntil:
		return told{r.Until(x.owner, x.n), true}
	case aNth:
		return told{r.Nth(x.owner, x.n), true}
	}
	n, is := r.Serves(x.n)
	return told{n, is}
}

// asTold makes the call, and fails unless it answers as the record. It is no helper of the tests: to say so takes longer than the call.
func asTold(t *testing.T, c api.Config, r *record, x call) {
	if got, want := answer(c, x), r.wants(x); got != want {
		t.Errorf("%s: %+v, not %+v, of %+v", x, got, want, c)
	}
}

func (x call) String() string {
	name := [...]string{"Whose", "Count", "Before", "Until", "Nth", "Serves"}[x.kind]
	return name + " of the owner " + big.NewInt(int64(x.owner)).String() + ", at " + big.NewInt(int64(x.n)).String()
}
