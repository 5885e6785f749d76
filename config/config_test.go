package config_test

import (
	"math"
	"math/rand/v2"
	"reflect"
	"slices"
	"testing"

	"empennage/api"
	"empennage/config"
)

const least, most = math.MinInt, math.MaxInt

// sampling is a channel that is right where there are both partitions.
func sampling(from, to int) api.Channel {
	return api.Channel{Kind: api.Sampling, From: from, To: to, Words: 2, Refresh: 5}
}

// queuing is likewise one.
func queuing(from, to int) api.Channel {
	return api.Channel{
		Kind: api.Queuing, From: from, To: to, Words: 3, Lanes: 2, Depth: 4, Hold: 5, Life: 60, Rate: 3, Cap: 7,
	}
}

// good is a config that may be, new each time.
func good() api.Config {
	return api.Config{
		Partitions: 3, Frame: 20,
		Windows:  []api.Window{{Owner: 0, Start: 1, Len: 4}, {Owner: api.Router, Start: 5, Len: 3}, {Owner: 2, Start: 10, Len: 10}},
		Channels: []api.Channel{sampling(0, 1), queuing(1, 2), queuing(2, 1)},
		Actions:  []int{api.Stop, api.Ignore, api.Restart},
	}
}

// turned is good, with something turned.
func turned(turn func(c *api.Config)) api.Config {
	c := good()
	turn(&c)
	return c
}

// plain is a config of so many partitions that may be, if there may be so many: one window, no channels.
func plain(partitions int) api.Config {
	return api.Config{
		Partitions: partitions, Frame: 4, Windows: []api.Window{{Len: 4}}, Actions: make([]int, min(max(partitions, 0), 9)),
	}
}

// checks fails unless that is what Check tells, each time.
func checks(t *testing.T, what string, c api.Config, want config.Place) {
	t.Helper()
	code := api.InvalidConfig
	if want == (config.Place{}) {
		code = api.NoError
	}
	for range 2 {
		if got, e := config.Check(c); got != want || e != code {
			t.Errorf("%s: Check tells %+v, %v, not %+v, %v, of %+v", what, got, e, want, code, c)
		}
	}
}

// unless is the place, if it is one of something that may not be.
func unless(may bool, part, n int) config.Place {
	if may {
		return config.Place{}
	}
	return config.Place{Part: part, N: n}
}

// around are the numbers at, below and above both edges, and those far away.
func around(low, high int) []int {
	return []int{least, least + 1, -1 << 32, -high, low - 2, low - 1, low, low + 1, (low + high) / 2, high - 1, high, high + 1, high + 2, 256 + high, 1<<32 + low, most - 1, most}
}

// P4.1 is asked by the tests from here on, P4.2 by the last ones.

func TestExample(t *testing.T) {
	checks(t, "the example", api.Config{
		Partitions: 1, Frame: 4, Windows: []api.Window{{Owner: 0, Start: 0, Len: 4}}, Actions: []int{0},
	}, config.Place{})
	checks(t, "good", good(), config.Place{})
	checks(t, "the zero config", api.Config{}, config.Place{Part: 1})
}

func TestCheckPartitions(t *testing.T) {
	for _, n := range append(around(1, 4), 0, 1, 2, 3, 4, 5) {
		checks(t, "Partitions", plain(n), unless(1 <= n && n <= 4, 1, 0))
	}
}

func TestCheckFrame(t *testing.T) {
	for _, n := range around(1, 64) {
		c := plain(1)
		c.Frame, c.Windows[0].Len = n, 1
		checks(t, "Frame", c, unless(1 <= n && n <= 64, 2, 0))
	}
}

// row is so many windows of one tick each, one behind the other.
func row(n int) []api.Window {
	var l []api.Window
	for i := range n {
		l = append(l, api.Window{Owner: i%4 - 1, Start: i, Len: 1})
	}
	return l
}

func TestCheckHowManyWindows(t *testing.T) {
	for _, n := range []int{0, 1, 2, 3, 4, 5, 6, 7, 8, 9, 10, 64, 65, 264} {
		c := good()
		c.Frame, c.Windows = 64, row(n)
		checks(t, "how many windows", c, unless(1 <= n && n <= 8, 3, -1))
	}
	for _, n := range []int{9, 20} {
		c := good()
		c.Windows = make([]api.Window, n)
		checks(t, "too many windows that may not be", c, config.Place{Part: 3, N: -1})
	}
	for _, none := range [][]api.Window{nil, {}} {
		checks(t, "no windows", turned(func(c *api.Config) { c.Windows = none }), config.Place{Part: 3, N: -1})
	}
}

func TestCheckOwner(t *testing.T) {
	for partitions := 1; partitions <= 4; partitions++ {
		for _, owner := range append(around(-1, partitions-1), 0, 1, 2, 3, 4) {
			for n := range 8 {
				c := plain(partitions)
				c.Frame, c.Windows = 64, row(8)
				for i := range c.Windows {
					c.Windows[i].Owner = i % partitions
				}
				c.Windows[n].Owner = owner
				checks(t, "Owner", c, unless(-1 <= owner && owner < partitions, 3, n))
			}
		}
	}
}

func TestCheckOneWindow(t *testing.T) {
	for _, frame := range []int{1, 2, 7, 64} {
		for _, start := range append(around(0, frame), 1<<62, -1<<62) {
			for _, length := range append(around(1, frame), 1<<62, -1<<62) {
				c := plain(2)
				c.Frame, c.Windows = frame, []api.Window{{Owner: 1, Start: start, Len: length}}
				// The sum of two small numbers alone is made.
				may := 0 <= start && start <= 64 && 1 <= length && length <= 64 && start+length <= frame
				checks(t, "a window", c, unless(may, 3, 0))
			}
		}
	}
}

func TestCheckSumsThatRunOver(t *testing.T) {
	for _, x := range [][2]int{
		{1, most}, {2, most}, {5, most - 3}, {most, 1}, {most, 2}, {most - 3, 5}, {most, most}, {1 << 62, 1 << 62},
		{least, least}, {least, most}, {most, least}, {most, -most}, {-5, 10}, {-1, 2}, {-4, 4}, {least, 1},
	} {
		for n := range 3 {
			c := good()
			c.Windows[n].Start, c.Windows[n].Len = x[0], x[1]
			checks(t, "a sum that runs over", c, config.Place{Part: 3, N: n})
		}
	}
}

func TestCheckWindowsBehindEachOther(t *testing.T) {
	const frame = 8
	for start := -1; start <= frame+1; start++ {
		for length := -1; length <= frame+1; length++ {
			for second := -1; second <= frame+1; second++ {
				c := plain(1)
				c.Frame = frame
				c.Windows = []api.Window{{Start: start, Len: length}, {Start: second, Len: 2}}
				first := start >= 0 && length >= 1 && start+length <= frame
				want := unless(first, 3, 0)
				if first {
					want = unless(start+length <= second && second <= frame-2, 3, 1)
				}
				checks(t, "two windows", c, want)
			}
		}
	}
}

func TestCheckLastWindows(t *testing.T) {
	c := plain(1)
	c.Frame, c.Windows = 8, row(8)
	for i := range c.Windows {
		c.Windows[i].Owner = 0
	}
	checks(t, "windows that fill a frame", c, config.Place{})
	c.Frame = 7
	checks(t, "one tick too many", c, config.Place{Part: 3, N: 7})
	c.Frame, c.Windows[7].Start = 9, 8
	checks(t, "a gap ahead of the last one", c, config.Place{})
	c.Windows[7].Start = 6
	checks(t, "the last one's start in the one ahead", c, config.Place{Part: 3, N: 7})
}

func TestCheckHowManyChannels(t *testing.T) {
	for _, n := range []int{0, 1, 2, 3, 4, 5, 6, 7, 8, 100, 262} {
		c := good()
		c.Channels = slices.Repeat([]api.Channel{queuing(2, 0)}, n)
		checks(t, "how many channels", c, unless(n <= 6, 4, -1))
	}
	for _, none := range [][]api.Channel{nil, {}} {
		checks(t, "no channels", turned(func(c *api.Config) { c.Channels = none }), config.Place{})
	}
	checks(t, "too many that are not right", turned(func(c *api.Config) { c.Channels = make([]api.Channel, 7) }), config.Place{Part: 4, N: -1})
}

// bound is a number of a channel, and what it may be.
type bound struct {
	name      string
	at        func(k *api.Channel) *int
	low, high int
}

// bounds are those of the kind, as the chapter tells them.
func bounds(kind int) []bound {
	l := []bound{
		{"Words", func(k *api.Channel) *int { return &k.Words }, 1, 4},
		{"Refresh", func(k *api.Channel) *int { return &k.Refresh }, 0, 0},
		{"Lanes", func(k *api.Channel) *int { return &k.Lanes }, 1, 3},
		{"Depth", func(k *api.Channel) *int { return &k.Depth }, 1, 8},
		{"Hold", func(k *api.Channel) *int { return &k.Hold }, 1, 8},
		{"Life", func(k *api.Channel) *int { return &k.Life }, 1, 65536},
		{"Rate", func(k *api.Channel) *int { return &k.Rate }, 0, 64},
		{"Cap", func(k *api.Channel) *int { return &k.Cap }, 1, 64},
	}
	if kind == api.Sampling {
		l[1].low, l[1].high = 1, 65536
		for i := 2; i < len(l); i++ {
			l[i].low, l[i].high = 0, 0
		}
	}
	return l
}

// both are a right channel of each kind.
func both() []api.Channel { return []api.Channel{sampling(0, 2), queuing(1, 0)} }

// isRight fails unless Right, and Check of a config with it at each place, tell the same.
func isRight(t *testing.T, what string, k api.Channel, want bool) {
	t.Helper()
	if got := config.Right(good(), k); got != want {
		t.Errorf("%s: Right of %+v is %v", what, k, got)
	}
	for n := range 6 {
		c := good()
		c.Channels = slices.Repeat([]api.Channel{sampling(1, 0), queuing(0, 2)}, 3)
		c.Channels[n] = k
		checks(t, what, c, unless(want, 4, n))
	}
}

func TestEachNumberOfChannels(t *testing.T) {
	for _, k := range both() {
		for _, b := range bounds(k.Kind) {
			for _, n := range append(around(b.low, b.high), 0, 1, 2, 5, 8, 64, 65536) {
				was := *b.at(&k)
				*b.at(&k) = n
				isRight(t, b.name, k, b.low <= n && n <= b.high)
				*b.at(&k) = was
			}
		}
	}
}

// Each number at, below and above its edges, together with each of the others so.
func TestAllNumbersOfChannels(t *testing.T) {
	c := good()
	for _, k := range both() {
		l := bounds(k.Kind)
		for row := range 1 << (2 * len(l)) {
			want := true
			for i, b := range l {
				edge := row >> (2 * i) & 3
				*b.at(&k) = []int{b.low, b.high, b.low - 1, b.high + 1}[edge]
				want = want && edge < 2
			}
			if got := config.Right(c, k); got != want {
				t.Fatalf("Right of %+v is %v", k, got)
			}
		}
	}
}

func TestKindsOfChannels(t *testing.T) {
	for _, k := range append(both(), api.Channel{From: 0, To: 1, Words: 1}) {
		was := k.Kind
		for _, kind := range []int{least, -256, -2, -1, 0, 1, 2, 3, 256, 257, 1 << 32, 1<<32 + 1, most} {
			k.Kind = kind
			isRight(t, "Kind", k, kind == was && k.Refresh+k.Lanes > 0)
		}
	}
}

func TestEndsOfChannels(t *testing.T) {
	ends := []int{least, -256, -2, -1, 0, 1, 2, 3, 4, 5, 256, 257, 1 << 32, most}
	for partitions := 1; partitions <= 4; partitions++ {
		for _, from := range ends {
			for _, to := range ends {
				there := 0 <= from && from < partitions && 0 <= to && to < partitions
				for _, k := range []api.Channel{sampling(from, to), queuing(from, to)} {
					c := plain(partitions)
					if got, want := config.Right(c, k), there && from != to; got != want {
						t.Errorf("%d partitions: Right of %+v is %v", partitions, k, got)
					}
					c.Channels = []api.Channel{k}
					checks(t, "From, To", c, unless(there && from != to, 4, 0))
				}
			}
		}
	}
}

// Right hangs on nothing of the config but its Partitions, also where these may not be.
func TestRightOfAnyConfig(t *testing.T) {
	if c := (api.Config{Partitions: 2}); !config.Right(c, queuing(1, 0)) || config.Right(c, queuing(1, 2)) {
		t.Error("a config of Partitions alone")
	}
	c := turned(func(c *api.Config) { c.Frame, c.Windows[0].Len, c.Actions, c.Channels[0].Kind = -1, 0, nil, 9 })
	if !config.Right(c, sampling(1, 2)) || config.Right(c, sampling(1, 3)) {
		t.Error("a config that may not be")
	}
	for _, partitions := range []int{least, -1, 0, 1} {
		for from := -2; from <= 2; from++ {
			for to := -2; to <= 2; to++ {
				if config.Right(api.Config{Partitions: partitions}, sampling(from, to)) {
					t.Errorf("%d partitions: a channel from %d to %d", partitions, from, to)
				}
			}
		}
	}
	for _, partitions := range []int{5, 300, most} {
		if c := (api.Config{Partitions: partitions}); !config.Right(c, sampling(0, partitions-1)) || config.Right(c, sampling(partitions, 0)) {
			t.Errorf("%d partitions", partitions)
		}
	}
}

func TestCheckHowManyActions(t *testing.T) {
	for partitions := 1; partitions <= 4; partitions++ {
		for n := range 9 {
			c := plain(partitions)
			c.Actions = make([]int, n)
			checks(t, "how many Actions", c, unless(n == partitions, 5, -1))
			for i := range c.Actions {
				c.Actions[i] = 9
			}
			want := config.Place{Part: 5, N: -1}
			if n == partitions {
				want.N = 0
			}
			checks(t, "Actions that may not be", c, want)
		}
		c := plain(partitions)
		c.Actions = nil
		checks(t, "no Actions", c, config.Place{Part: 5, N: -1})
	}
}

func TestCheckEachAction(t *testing.T) {
	for partitions := 1; partitions <= 4; partitions++ {
		for i := range partitions {
			for _, a := range around(0, 2) {
				c := plain(partitions)
				c.Actions[i] = a
				checks(t, "an Action", c, unless(0 <= a && a <= 2, 5, i))
			}
		}
	}
}

// wrong turns something of good so that it may not be, and tells where.
type wrong struct {
	at   config.Place
	turn func(c *api.Config)
}

func wrongs() []wrong {
	return []wrong{
		{config.Place{Part: 1}, func(c *api.Config) { c.Partitions = 0 }},
		{config.Place{Part: 1}, func(c *api.Config) { c.Partitions = 5 }},
		{config.Place{Part: 2}, func(c *api.Config) { c.Frame = 0 }},
		{config.Place{Part: 2}, func(c *api.Config) { c.Frame = 65 }},
		{config.Place{Part: 3, N: -1}, func(c *api.Config) { c.Windows = nil }},
		{config.Place{Part: 3, N: -1}, func(c *api.Config) { c.Windows = make([]api.Window, 9) }},
		{config.Place{Part: 3, N: 0}, func(c *api.Config) { c.Windows[0].Start, c.Windows[1].Len = -1, 0 }},
		{config.Place{Part: 3, N: 1}, func(c *api.Config) { c.Windows[1].Owner, c.Windows[2].Owner = 3, -2 }},
		{config.Place{Part: 3, N: 2}, func(c *api.Config) { c.Windows[2].Len = 11 }},
		{config.Place{Part: 4, N: -1}, func(c *api.Config) { c.Channels = make([]api.Channel, 7) }},
		{config.Place{Part: 4, N: 0}, func(c *api.Config) { c.Channels[0].Words, c.Channels[2].Words = 0, 0 }},
		{config.Place{Part: 4, N: 1}, func(c *api.Config) { c.Channels[1].Cap, c.Channels[2].To = 65, 2 }},
		{config.Place{Part: 4, N: 2}, func(c *api.Config) { c.Channels[2].Kind = 2 }},
		{config.Place{Part: 5, N: -1}, func(c *api.Config) { c.Actions = append(c.Actions, 0) }},
		{config.Place{Part: 5, N: 0}, func(c *api.Config) { c.Actions[0], c.Actions[2] = 3, -1 }},
		{config.Place{Part: 5, N: 2}, func(c *api.Config) { c.Actions[2] = -1 }},
	}
}

func TestCheckTellsTheFirst(t *testing.T) {
	for _, first := range wrongs() {
		checks(t, "one", turned(first.turn), first.at)
		for _, second := range wrongs() {
			if second.at.Part <= first.at.Part {
				continue
			}
			c := turned(first.turn)
			second.turn(&c)
			checks(t, "two", c, first.at)
			for _, third := range wrongs() {
				if third.at.Part > second.at.Part {
					d := config.Clone(c)
					third.turn(&d)
					checks(t, "three", d, first.at)
				}
			}
		}
	}
}

// joined is a config with channels of both kinds over these pairs, in their row.
func joined(partitions int, pairs ...[2]int) api.Config {
	c := plain(partitions)
	for i, p := range pairs {
		k := sampling(p[0], p[1])
		if i%2 == 1 {
			k = queuing(p[0], p[1])
		}
		c.Channels = append(c.Channels, k)
	}
	return c
}

// intos fails unless these are Into of 0, 1, .., and Path of all pairs tells the same.
func intos(t *testing.T, c api.Config, want ...[]int) {
	t.Helper()
	for to, from := range want {
		if got := config.Into(c, to); !slices.Equal(got, from) {
			t.Errorf("Into of %d is %v, not %v, of %+v", to, got, from, c)
		}
		for p := range want {
			if got := config.Path(c, p, to); got != slices.Contains(from, p) {
				t.Errorf("Path from %d to %d is %v, of %+v", p, to, got, c)
			}
		}
	}
}

func TestPathsWrittenOut(t *testing.T) {
	intos(t, joined(1), []int{0})
	intos(t, joined(4), []int{0}, []int{1}, []int{2}, []int{3})
	intos(t, joined(2, [2]int{0, 1}), []int{0}, []int{0, 1})
	intos(t, joined(2, [2]int{1, 0}), []int{0, 1}, []int{1})
	intos(t, joined(2, [2]int{1, 0}, [2]int{0, 1}), []int{0, 1}, []int{0, 1})
	intos(t, joined(3, [2]int{2, 0}, [2]int{2, 0}, [2]int{2, 0}), []int{0, 2}, []int{1}, []int{2})
	// Over three channels, whichever row they stand in.
	intos(t, joined(4, [2]int{0, 1}, [2]int{1, 2}, [2]int{2, 3}), []int{0}, []int{0, 1}, []int{0, 1, 2}, []int{0, 1, 2, 3})
	intos(t, joined(4, [2]int{2, 3}, [2]int{1, 2}, [2]int{0, 1}), []int{0}, []int{0, 1}, []int{0, 1, 2}, []int{0, 1, 2, 3})
	intos(t, joined(4, [2]int{3, 1}, [2]int{1, 2}, [2]int{2, 0}), []int{0, 1, 2, 3}, []int{1, 3}, []int{1, 2, 3}, []int{3})
	// Round in a ring, and in one that one partition isn't of.
	all := []int{0, 1, 2, 3}
	intos(t, joined(4, [2]int{0, 1}, [2]int{1, 2}, [2]int{2, 3}, [2]int{3, 0}), all, all, all, all)
	intos(t, joined(4, [2]int{3, 0}, [2]int{2, 3}, [2]int{1, 2}, [2]int{0, 1}), all, all, all, all)
	ring := []int{0, 1, 2}
	intos(t, joined(4, [2]int{0, 1}, [2]int{1, 2}, [2]int{2, 0}), ring, ring, ring, []int{3})
	intos(t, joined(4, [2]int{0, 1}, [2]int{1, 2}, [2]int{2, 0}, [2]int{1, 3}), ring, ring, ring, all)
	intos(t, good(), []int{0}, []int{0, 1, 2}, []int{0, 1, 2})
}

func TestPathsOfPartitionsThatAreNotThere(t *testing.T) {
	for partitions := 1; partitions <= 4; partitions++ {
		c := joined(partitions)
		if partitions > 1 {
			c = joined(partitions, [2]int{0, partitions - 1}, [2]int{partitions - 1, 0})
		}
		for _, away := range []int{least, -256, -2, -1, partitions, partitions + 1, 4, 255, 256, 1 << 32, most} {
			if l := config.Into(c, away); len(l) != 0 {
				t.Errorf("%d partitions: Into of %d is %v", partitions, away, l)
			}
			for p := range partitions {
				if config.Path(c, p, away) || config.Path(c, away, p) || config.Path(c, away, away) {
					t.Errorf("%d partitions: a path of %d", partitions, away)
				}
			}
		}
	}
}

func TestPathsOfConfigsThatMayNotBe(t *testing.T) {
	for _, x := range wrongs() {
		c := turned(x.turn)
		for to := -1; to <= 5; to++ {
			if l := config.Into(c, to); len(l) != 0 {
				t.Errorf("Into of %d is %v, of %+v", to, l, c)
			}
			for from := -1; from <= 5; from++ {
				if config.Path(c, from, to) {
					t.Errorf("a path from %d to %d, of %+v", from, to, c)
				}
			}
		}
	}
}

func TestIntoIsNewMemory(t *testing.T) {
	c := good()
	a, b := config.Into(c, 1), config.Into(c, 1)
	for i := range a {
		a[i] = 77
	}
	_ = append(a, 78)
	if !slices.Equal(b, []int{0, 1, 2}) || !slices.Equal(config.Into(c, 1), []int{0, 1, 2}) {
		t.Error("a list that was answered hangs on another one")
	}
	if !reflect.DeepEqual(c, good()) {
		t.Errorf("what was handed in is %+v", c)
	}
	c.Channels[0].From, c.Actions[0] = 2, 9
	if !slices.Equal(b, []int{0, 1, 2}) {
		t.Error("a list that was answered hangs on what was handed in")
	}
}

// numbers are where all numbers of a value lie.
func numbers(v reflect.Value) []*int {
	switch v.Kind() {
	case reflect.Int:
		return []*int{v.Addr().Interface().(*int)}
	case reflect.Struct:
		var l []*int
		for i := range v.NumField() {
			l = append(l, numbers(v.Field(i))...)
		}
		return l
	case reflect.Slice:
		var l []*int
		for i := range v.Len() {
			l = append(l, numbers(v.Index(i))...)
		}
		return l
	}
	panic("a config of " + v.Kind().String())
}

func numbersOf(c *api.Config) []*int { return numbers(reflect.ValueOf(c).Elem()) }

// same fails unless Same tells that, of both rows.
func same(t *testing.T, a, b api.Config, want bool) {
	t.Helper()
	if config.Same(a, b) != want || config.Same(b, a) != want {
		t.Errorf("Same is not %v, of %+v and %+v", want, a, b)
	}
}

func TestSameButOneNumber(t *testing.T) {
	c := good()
	same(t, c, good(), true)
	same(t, c, c, true)
	n := len(numbersOf(&c))
	if n != 2+3*3+3*11+3 {
		t.Fatalf("%d numbers", n)
	}
	for i := range n {
		for _, other := range []int{least, -2, 1000, 1 << 32, most} {
			d := good()
			at := numbersOf(&d)[i]
			was := *at
			*at = other
			same(t, c, d, false)
			*at = was + 256
			same(t, c, d, false)
			*at = was
			same(t, c, d, true)
		}
	}
}

func TestSameOfLists(t *testing.T) {
	for i := range 8 {
		// Nil lists, or empty ones, each of them.
		var c api.Config
		if i&1 != 0 {
			c.Windows = []api.Window{}
		}
		if i&2 != 0 {
			c.Channels = []api.Channel{}
		}
		if i&4 != 0 {
			c.Actions = []int{}
		}
		same(t, c, api.Config{}, true)
		same(t, c, c, true)
		same(t, c, api.Config{Windows: make([]api.Window, 1)}, false)
		same(t, c, api.Config{Channels: make([]api.Channel, 1)}, false)
		same(t, c, api.Config{Actions: make([]int, 1)}, false)
	}
	for _, turn := range []func(c *api.Config){
		func(c *api.Config) { c.Windows = c.Windows[:2] },
		func(c *api.Config) { c.Windows = c.Windows[1:] },
		func(c *api.Config) { c.Windows = append(c.Windows, api.Window{}) },
		func(c *api.Config) { slices.Reverse(c.Windows) },
		func(c *api.Config) { c.Channels = c.Channels[:2] },
		func(c *api.Config) { c.Channels = c.Channels[1:] },
		func(c *api.Config) { c.Channels = append(c.Channels, api.Channel{}) },
		func(c *api.Config) { slices.Reverse(c.Channels) },
		func(c *api.Config) { c.Actions = c.Actions[:2] },
		func(c *api.Config) { c.Actions = c.Actions[1:] },
		func(c *api.Config) { c.Actions = append(c.Actions, 0) },
		func(c *api.Config) { slices.Reverse(c.Actions) },
	} {
		same(t, turned(turn), good(), false)
		same(t, turned(turn), turned(turn), true)
	}
}

// roomy is good, its lists with room behind, which is full of 77.
func roomy() api.Config {
	c := good()
	c.Windows = append(c.Windows, api.Window{Owner: 77, Start: 77, Len: 77})[:3]
	c.Channels = append(c.Channels, api.Channel{Kind: 77, Cap: 77})[:3]
	c.Actions = append(c.Actions, 77)[:3]
	return c
}

// untouched fails unless roomy, and the room behind, is as it was.
func untouched(t *testing.T, what string, c api.Config) {
	t.Helper()
	if !reflect.DeepEqual(c, good()) {
		t.Errorf("%s: what was handed in is %+v", what, c)
	}
	w, k, a := c.Windows[:4][3], c.Channels[:4][3], c.Actions[:4][3]
	if w != (api.Window{Owner: 77, Start: 77, Len: 77}) || k != (api.Channel{Kind: 77, Cap: 77}) || a != 77 {
		t.Errorf("%s: the room behind is %v, %v, %v", what, w, k, a)
	}
}

// spoil turns each number, and puts something into the room behind.
func spoil(c api.Config) {
	_ = append(c.Windows, api.Window{Owner: 5})
	_ = append(c.Channels, api.Channel{Kind: 5})
	_ = append(c.Actions, 5)
	for _, n := range numbersOf(&c) {
		*n += 40
	}
}

func TestCloneSharesNoMemory(t *testing.T) {
	c := roomy()
	d, e := config.Clone(c), config.Clone(c)
	if !reflect.DeepEqual(d, good()) || !reflect.DeepEqual(e, good()) {
		t.Errorf("Clone is %+v", d)
	}
	spoil(d)
	untouched(t, "behind a clone that was turned", c)
	if !reflect.DeepEqual(e, good()) {
		t.Error("another clone turned")
	}
	spoil(c)
	if !reflect.DeepEqual(e, good()) {
		t.Error("a clone turned with what was handed in")
	}
}

func TestCloneOfAnyConfig(t *testing.T) {
	for _, x := range wrongs() {
		c := turned(x.turn)
		same(t, config.Clone(c), c, true)
		same(t, config.Clone(config.Clone(c)), turned(x.turn), true)
	}
	same(t, config.Clone(api.Config{}), api.Config{}, true)
	// An empty list with room behind it shares none of that.
	all := []int{77, 77}
	d := config.Clone(api.Config{Actions: all[:0]})
	_ = append(d.Actions, 5)
	if len(d.Actions) != 0 || all[0] != 77 {
		t.Errorf("the room behind an empty list is %v", all)
	}
	var big api.Config
	for i := range 1000 {
		big.Windows = append(big.Windows, api.Window{Owner: i, Start: -i, Len: most})
		big.Channels = append(big.Channels, queuing(i, least))
		big.Actions = append(big.Actions, i)
	}
	same(t, config.Clone(big), big, true)
	checks(t, "great lists", big, config.Place{Part: 1})
}

func TestCallsTurnNothing(t *testing.T) {
	c := roomy()
	for name, call := range map[string]func(){
		"Check": func() { config.Check(c) },
		"Right": func() { config.Right(c, c.Channels[1]) },
		"Path":  func() { config.Path(c, 0, 2) },
		"Into":  func() { config.Into(c, 1) },
		"Same":  func() { config.Same(c, good()); config.Same(good(), c) },
		"Clone": func() { config.Clone(c) },
	} {
		call()
		untouched(t, name, c)
	}
}

// place is what Check is to tell: windows are looked at tick by tick.
func place(c api.Config) config.Place {
	if c.Partitions < 1 || c.Partitions > 4 {
		return config.Place{Part: 1}
	}
	if c.Frame < 1 || c.Frame > 64 {
		return config.Place{Part: 2}
	}
	if len(c.Windows) == 0 || len(c.Windows) > 8 {
		return config.Place{Part: 3, N: -1}
	}
	next := 0
	for i, w := range c.Windows {
		if w.Owner < -1 || w.Owner >= c.Partitions || w.Start < next || w.Len <= 0 {
			return config.Place{Part: 3, N: i}
		}
		for next = w.Start; w.Len > 0; w.Len-- {
			if next >= c.Frame {
				return config.Place{Part: 3, N: i}
			}
			next++
		}
	}
	if len(c.Channels) > 6 {
		return config.Place{Part: 4, N: -1}
	}
	for i, k := range c.Channels {
		if !right(c, k) {
			return config.Place{Part: 4, N: i}
		}
	}
	if len(c.Actions) != c.Partitions {
		return config.Place{Part: 5, N: -1}
	}
	return config.Place{}
}

func right(c api.Config, k api.Channel) bool {
	if k.Kind != api.Sampling && k.Kind != api.Queuing || k.From == k.To {
		return false
	}
	for _, b := range bounds(k.Kind) {
		if n := *b.at(&k); n < b.low || n > b.high {
			return false
		}
	}
	return min(k.From, k.To) >= 0 && max(k.From, k.To) < c.Partitions
}

// leads goes along the channels, to none that it came from.
func leads(c api.Config, from, to int, over ...int) bool {
	if from == to {
		return true
	}
	for _, k := range c.Channels {
		if k.From == from && !slices.Contains(over, k.To) && leads(c, k.To, to, append(over, from)...) {
			return true
		}
	}
	return false
}

func TestConfigsTurnedAnywhere(t *testing.T) {
	random := rand.New(rand.NewPCG(5, 6))
	ends := []int{least, most, 1 << 62, 65536, 65537, 64, 65, 8, 9, 20}
	may := 0
	for range 40000 {
		c := good()
		all := numbersOf(&c)
		all = all[:len(all)-3] // Actions have tests of their own
		for range 1 + random.IntN(3) {
			at := all[random.IntN(len(all))]
			*at = random.IntN(7) - 2
			if random.IntN(4) == 0 {
				*at = ends[random.IntN(len(ends))]
			}
		}
		want := place(c)
		checks(t, "turned anywhere", c, want)
		if want != (config.Place{}) {
			continue
		}
		may++
		for from := range c.Partitions {
			for to := range c.Partitions {
				if got := config.Path(c, from, to); got != leads(c, from, to) {
					t.Errorf("Path from %d to %d is %v, of %+v", from, to, got, c)
				}
			}
		}
	}
	if may < 1000 {
		t.Errorf("only %d of them may be", may)
	}
}

// wirings are all configs that differ in where their channels lead, those in the other row, too.
func wirings(yield func(c api.Config) bool) {
	for partitions := 1; partitions <= 4; partitions++ {
		var all [][2]int
		for i := range partitions * partitions {
			if p := [2]int{i / partitions, i % partitions}; p[0] != p[1] {
				all = append(all, p)
			}
		}
		for set := range 1 << len(all) {
			var pairs [][2]int
			for i, p := range all {
				if set>>i&1 == 1 {
					pairs = append(pairs, p)
				}
			}
			if len(pairs) > 6 {
				continue
			}
			if !yield(joined(partitions, pairs...)) {
				return
			}
			slices.Reverse(pairs)
			if !yield(joined(partitions, pairs...)) {
				return
			}
		}
	}
}

func TestEachPath(t *testing.T) {
	count := 0
	for c := range wirings {
		count++
		checks(t, "a wiring", c, config.Place{})
		var want [][]int
		for to := range c.Partitions {
			var l []int
			for from := range c.Partitions {
				if leads(c, from, to) {
					l = append(l, from)
				}
			}
			want = append(want, l)
		}
		intos(t, c, want...)
	}
	if count != 2*(1+4+64+2510) {
		t.Errorf("%d wirings", count)
	}
}

func TestPathsGoOn(t *testing.T) {
	on := 0
	for c := range wirings {
		for i := range c.Partitions * c.Partitions * c.Partitions {
			from, over, to := i%c.Partitions, i/c.Partitions%c.Partitions, i/c.Partitions/c.Partitions
			if !config.Path(c, from, over) || !config.Path(c, over, to) {
				continue
			}
			if !config.Path(c, from, to) || !slices.Contains(config.Into(c, to), from) {
				t.Fatalf("paths lead from %d to %d, and on to %d, but none from the first to the last, of %+v", from, over, to, c)
			}
			if from != over && over != to && from != to {
				on++
			}
		}
	}
	if on < 10000 {
		t.Errorf("only %d paths went on", on)
	}
}

// One channel more takes no path away, and a channel is a path.
func TestPathsByOneMoreChannel(t *testing.T) {
	for c := range wirings {
		for _, k := range c.Channels {
			if !config.Path(c, k.From, k.To) {
				t.Fatalf("no path along the channel from %d to %d, of %+v", k.From, k.To, c)
			}
		}
		if len(c.Channels) == 0 {
			continue
		}
		less := config.Clone(c)
		less.Channels = less.Channels[1:]
		for to := range c.Partitions {
			for _, from := range config.Into(less, to) {
				if !config.Path(c, from, to) {
					t.Fatalf("one channel more took the path from %d to %d away, of %+v", from, to, c)
				}
			}
		}
	}
}
