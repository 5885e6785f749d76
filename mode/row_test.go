package mode_test

import (
	"slices"
	"testing"

	"empennage/api"
	"empennage/mode"
)

// P15.2 is asked by the tests of this file, by what the partitions tell alone.

// told is all modes, and how often each partition was Up.
type told struct{ modes, starts []int }

func tells(m *mode.Modes) told {
	all := told{modes: m.All()}
	for p := range all.modes {
		all.starts = append(all.starts, m.Starts(p))
	}
	return all
}

// alone fails if the call turned a partition that isn't its own.
func alone(t *testing.T, c call, was, is told) {
	for p := range was.modes {
		if p != c.p && (is.modes[p] != was.modes[p] || is.starts[p] != was.starts[p]) {
			t.Errorf("%+v: of %d the mode %d with %d starts, ahead %d with %d", c, p, is.modes[p], is.starts[p], was.modes[p], was.starts[p])
		}
	}
	if len(is.modes) != len(was.modes) {
		t.Errorf("%+v: %v, ahead %v", c, is.modes, was.modes)
	}
}

// turns fails unless each partition's mode turned by what may turn it.
func turns(t *testing.T, c call, what said, was, is told) {
	for p := range was.modes {
		from, to := was.modes[p], is.modes[p]
		switch {
		case from == api.Stopped && to != api.Stopped:
			t.Errorf("%+v: %d was Stopped, and is %d", c, p, to)
		case to == api.Warm && from != api.Warm && from != api.Normal:
			t.Errorf("%+v: %d is Warm, and was %d", c, p, from)
		case from == api.Warm && to != api.Warm && (to != api.Normal || c != call{anUp, p}):
			t.Errorf("%+v: %d was Warm, and is %d", c, p, to)
		}
		if to < api.Normal || to > api.Stopped {
			t.Errorf("%+v: %d has the mode %d", c, p, to)
		}
		// What is done of a fault, or isn't, is what is answered.
		if c == (call{aFault, p}) && from == api.Normal && to != done(what.action) {
			t.Errorf("%+v: %d is %d of %d", c, p, to, what.action)
		}
	}
	if (what.e != api.NoError || c.kind == anUp && !what.was) && !slices.Equal(was.modes, is.modes) {
		t.Errorf("%+v told %+v, and %v were %v", c, what, is.modes, was.modes)
	}
}

// holds fails unless a row of calls turns but what it may, and Starts is how many Ups of a partition answered true.
func holds(t *testing.T, list []int, row []call) {
	m := mode.New(list)
	ups := map[int]int{}
	was := tells(m)
	for _, c := range row {
		what := answer(m, c)
		if what.was {
			ups[c.p]++
		}
		is := tells(m)
		alone(t, c, was, is)
		turns(t, c, what, was, is)
		for p, starts := range is.starts {
			if starts != ups[p] {
				t.Errorf("%+v: %d has %d starts, not %d", c, p, starts, ups[p])
			}
		}
		was = is
	}
	for p := range ups {
		if p < 0 || p >= len(was.modes) {
			t.Errorf("%d was Up of %v", p, was.modes)
		}
	}
}

func TestWhatMayTurnInEachRow(t *testing.T) {
	t.Parallel()
	for list, row := range few() {
		holds(t, list, row)
		if t.Failed() {
			t.Fatalf("of %v the row %+v", list, row)
		}
	}
}

func TestWhatMayTurnInDrawnRows(t *testing.T) {
	t.Parallel()
	for list, row := range drawnRows(85) {
		holds(t, list, row)
		if t.Failed() {
			t.Fatalf("of %v the row %+v", list, row)
		}
	}
}

// TestAPartitionCannotTellTheOthersCalls fails unless one to which no calls of others come answers as one among them.
func TestAPartitionCannotTellTheOthersCalls(t *testing.T) {
	t.Parallel()
	for list, row := range drawnRows(87) {
		all := mode.New(list)
		var lone []*mode.Modes
		for range all.All() {
			lone = append(lone, mode.New(list))
		}
		for _, c := range row {
			if c.p < 0 || c.p >= len(lone) {
				answer(all, c)
				continue
			}
			asTold(t, all, lone[c.p], c)
		}
		for p, one := range lone {
			n, _ := all.Mode(p)
			if m, _ := one.Mode(p); n != m || all.Starts(p) != one.Starts(p) {
				t.Errorf("%d is %d with %d starts, and alone %d with %d", p, n, all.Starts(p), m, one.Starts(p))
			}
		}
		if t.Failed() {
			t.Fatalf("of %v the row %+v", list, row)
		}
	}
}

// TestAPartitionCannotTellTheOthersActions fails unless a partition answers alike wherever it stands, and whatever is done of the faults of others.
func TestAPartitionCannotTellTheOthersActions(t *testing.T) {
	t.Parallel()
	for list, row := range drawnRows(89) {
		all := mode.New(list)
		var lone []*mode.Modes
		for p := range all.All() {
			lone = append(lone, mode.New(list[min(p, len(list)):min(p+1, len(list))]))
		}
		for _, c := range row {
			what := answer(all, c)
			if c.p < 0 || c.p >= len(lone) {
				continue
			}
			if of := answer(lone[c.p], call{c.kind, 0}); of != what {
				t.Errorf("%+v told %+v, and alone %+v", c, what, of)
			}
		}
		if t.Failed() {
			t.Fatalf("of %v the row %+v", list, row)
		}
	}
}

func TestTwoThatAreHandedTheSameCallsAnswerTheSame(t *testing.T) {
	t.Parallel()
	for list, row := range drawnRows(91) {
		a, b := mode.New(list), mode.New(list)
		for i, c := range row {
			asTold(t, a, b, c)
			same(t, a, b, 0, 1, 2, 3, 4, c.p)
			if t.Failed() {
				t.Fatalf("of %v the row %+v", list, row[:i+1])
			}
		}
		// One that is handed all of them when the other one is done answers the same, too.
		c := mode.New(list)
		for _, one := range row {
			answer(c, one)
		}
		same(t, a, c, 0, 1, 2, 3, 4)
	}
}

func TestOneThatIsUpAgainIsAsANewOneButForItsStarts(t *testing.T) {
	t.Parallel()
	for list, row := range drawnRows(93) {
		old := mode.New(list)
		var ups []int
		for p := range old.All() {
			for range 1 + len(row)%3 {
				old.Again(p)
				old.Up(p)
			}
			ups = append(ups, old.Starts(p))
		}
		fresh := mode.New(list)
		for i, c := range row {
			asTold(t, old, fresh, c)
			a, b := tells(old), tells(fresh)
			for p := range b.starts {
				b.starts[p] += ups[p]
			}
			if !slices.Equal(a.modes, b.modes) || !slices.Equal(a.starts, b.starts) {
				t.Errorf("%+v, and of a new one %+v", a, b)
			}
			if t.Failed() {
				t.Fatalf("of %v, behind Ups, the row %+v", list, row[:i+1])
			}
		}
	}
}
