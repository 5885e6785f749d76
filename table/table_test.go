package table_test

import (
	"bytes"
	"math"
	"math/rand/v2"
	"reflect"
	"slices"
	"sync"
	"testing"

	"empennage/api"
	"empennage/config"
	"empennage/table"
)

const least, most = math.MinInt, math.MaxInt

// sampling is a channel that is right where there are both partitions.
func sampling(from, to int) api.Channel {
	return api.Channel{Kind: api.Sampling, From: from, To: to, Words: 2, Refresh: 5}
}

// queuing is likewise one.
func queuing(from, to int) api.Channel {
	return api.Channel{
		Kind: api.Queuing, From: from, To: to, Words: 3, Lanes: 2, Depth: 4, Hold: 5, Life: 1000, Rate: 6, Cap: 7,
	}
}

// plain is a config of so many partitions: one window, no channels.
func plain(partitions int) api.Config {
	return api.Config{
		Partitions: partitions, Frame: 4, Windows: []api.Window{{Len: 4}}, Actions: make([]int, partitions),
	}
}

// good is a config that may be, new each time; each of its numbers may be turned to more than one other that may be, but Partitions.
func good() api.Config {
	return api.Config{
		Partitions: 4, Frame: 60,
		Windows:  []api.Window{{Owner: 2, Start: 5, Len: 10}, {Owner: api.Router, Start: 20, Len: 30}},
		Channels: []api.Channel{sampling(0, 1), queuing(2, 3)},
		Actions:  []int{api.Restart, api.Stop, api.Ignore, api.Restart},
	}
}

// The places in good's bytes.
const (
	atWindows  = 4
	atChannels = 11
	atActions  = 46
	goodLen    = 53
)

// turned is good, with something turned.
func turned(turn func(c *api.Config)) api.Config {
	c := good()
	turn(&c)
	return c
}

// put is the bytes, with a number's behind, made by dividing.
func put(b []byte, n, v int) []byte {
	for by := 1 << (8 * (n - 1)); by > 0; by /= 256 {
		b = append(b, byte(v/by%256))
	}
	return b
}

// inner is what is sealed of a config, written out in the chapter's row.
func inner(c api.Config) []byte {
	b := []byte{231, 1, byte(c.Partitions), byte(c.Frame), byte(len(c.Windows))}
	for _, w := range c.Windows {
		owner := byte(255)
		if w.Owner >= 0 {
			owner = byte(w.Owner)
		}
		b = append(b, owner, byte(w.Start), byte(w.Len))
	}
	b = append(b, byte(len(c.Channels)))
	for _, k := range c.Channels {
		b = put(append(b, byte(k.Kind), byte(k.From), byte(k.To), byte(k.Words)), 4, k.Refresh)
		b = put(append(b, byte(k.Lanes), byte(k.Depth), byte(k.Hold)), 4, k.Life)
		b = append(b, byte(k.Rate), byte(k.Cap))
	}
	b = append(b, byte(len(c.Actions)))
	for _, a := range c.Actions {
		b = append(b, byte(a))
	}
	return b
}

// sealed is the bytes with their sum behind.
func sealed(b []byte) []byte {
	sum := 0
	for _, x := range b {
		sum += int(x)
	}
	return put(slices.Clone(b), 2, sum%65536)
}

// reading is bytes that a test reads, by a place in them.
type reading struct {
	b  []byte
	at int
}

func (r *reading) one() int {
	r.at++
	if r.at > len(r.b) {
		return 0
	}
	return int(r.b[r.at-1])
}

func (r *reading) four() int {
	v := 0
	for range 4 {
		v = v*256 + r.one()
	}
	return v
}

func (r *reading) window() api.Window {
	w := api.Window{Owner: r.one(), Start: r.one(), Len: r.one()}
	if w.Owner == 255 {
		w.Owner = api.Router
	}
	return w
}

func (r *reading) channel() api.Channel {
	k := api.Channel{Kind: r.one(), From: r.one(), To: r.one(), Words: r.one(), Refresh: r.four()}
	k.Lanes, k.Depth, k.Hold, k.Life, k.Rate, k.Cap = r.one(), r.one(), r.one(), r.four(), r.one(), r.one()
	return k
}

// decoded is what Decode is to tell of inner bytes that were sealed.
func decoded(b []byte) (api.Config, api.Errno) {
	if len(b) < 2 {
		return api.Config{}, api.ErrShort
	}
	if b[0] != 231 || b[1] != 1 {
		return api.Config{}, api.ErrForm
	}
	r := &reading{b, 2}
	c := api.Config{Partitions: r.one(), Frame: r.one()}
	for range r.one() {
		c.Windows = append(c.Windows, r.window())
	}
	for range r.one() {
		c.Channels = append(c.Channels, r.channel())
	}
	for range r.one() {
		c.Actions = append(c.Actions, r.one())
	}
	if r.at > len(b) {
		return api.Config{}, api.ErrShort
	}
	if r.at < len(b) {
		return api.Config{}, api.ErrForm
	}
	if _, e := config.Check(c); e != api.NoError {
		return api.Config{}, e
	}
	return c, api.NoError
}

// tells fails unless that is what Decode and Count tell of the bytes, each time, and they stay as they are.
func tells(t *testing.T, what string, b []byte, want api.Config, code api.Errno) {
	t.Helper()
	was := slices.Clone(b)
	for range 2 {
		if got, e := table.Decode(b); !config.Same(got, want) || e != code {
			t.Errorf("%s: Decode of %v tells %+v, %v, not %+v, %v", what, b, got, e, want, code)
		}
		w, k, a, e := table.Count(b)
		if w != len(want.Windows) || k != len(want.Channels) || a != len(want.Actions) || e != code {
			t.Errorf("%s: Count of %v tells %d, %d, %d, %v, not of %+v, %v", what, b, w, k, a, e, want, code)
		}
	}
	if !bytes.Equal(b, was) {
		t.Errorf("%s: what was handed in is %v, not %v", what, b, was)
	}
}

// refused fails unless Decode tells the error, and nothing beside it.
func refused(t *testing.T, what string, b []byte, code api.Errno) {
	t.Helper()
	tells(t, what, b, api.Config{}, code)
}

// has fails unless the config has those bytes, by all calls.
func has(t *testing.T, what string, c api.Config, want []byte) {
	t.Helper()
	was := config.Clone(c)
	for range 2 {
		if got, e := table.Encode(c); !bytes.Equal(got, want) || e != api.NoError {
			t.Errorf("%s: Encode tells %v, %v, not %v, of %+v", what, got, e, want, c)
		}
		if got := table.Size(c); got != len(want) {
			t.Errorf("%s: Size tells %d, not %d, of %+v", what, got, len(want), c)
		}
	}
	if !reflect.DeepEqual(c, was) {
		t.Errorf("%s: what was handed in is %+v, not %+v", what, c, was)
	}
	tells(t, what, want, c, api.NoError)
}

// may fails unless the config may be, and has the bytes that the chapter says.
func may(t *testing.T, what string, c api.Config) {
	t.Helper()
	has(t, what, c, sealed(inner(c)))
}

// mayNot fails unless the config has no bytes.
func mayNot(t *testing.T, what string, c api.Config) {
	t.Helper()
	was := config.Clone(c)
	for range 2 {
		if got, e := table.Encode(c); len(got) != 0 || e != api.InvalidConfig {
			t.Errorf("%s: Encode tells %v, %v, of %+v", what, got, e, c)
		}
		if got := table.Size(c); got != 0 {
			t.Errorf("%s: Size tells %d, of %+v", what, got, c)
		}
	}
	if !reflect.DeepEqual(c, was) {
		t.Errorf("%s: what was handed in is %+v, not %+v", what, c, was)
	}
}

// P5.1 is asked by the tests from here on, P5.2 by the last ones.

func TestExample(t *testing.T) {
	c := api.Config{Partitions: 1, Frame: 4, Windows: []api.Window{{Owner: 0, Start: 0, Len: 4}}, Actions: []int{0}}
	if got := table.Size(c); got != 13 {
		t.Errorf("Size tells %d", got)
	}
	has(t, "the example", c, []byte{231, 1, 1, 4, 1, 0, 0, 4, 0, 1, 0, 0, 243})
}

func TestWrittenOut(t *testing.T) {
	has(t, "good", good(), []byte{
		231, 1, 4, 60,
		2, 2, 5, 10, 255, 20, 30,
		2, 0, 0, 1, 2, 0, 0, 0, 5, 0, 0, 0, 0, 0, 0, 0, 0, 0,
		1, 2, 3, 3, 0, 0, 0, 0, 2, 4, 5, 0, 0, 3, 232, 6, 7,
		4, 1, 2, 0, 1,
		3, 138,
	})
	has(t, "the greatest", api.Config{
		Partitions: 2, Frame: 64,
		Windows: []api.Window{{Owner: 1, Start: 0, Len: 63}, {Owner: -1, Start: 63, Len: 1}},
		Channels: []api.Channel{
			{Kind: 1, From: 1, To: 0, Words: 4, Lanes: 3, Depth: 8, Hold: 8, Life: 65536, Rate: 64, Cap: 64},
			{Kind: 0, From: 0, To: 1, Words: 4, Refresh: 65536},
			{Kind: 0, From: 1, To: 0, Words: 1, Refresh: 258},
		},
		Actions: []int{2, 2},
	}, []byte{
		231, 1, 2, 64,
		2, 1, 0, 63, 255, 63, 1,
		3, 1, 1, 0, 4, 0, 0, 0, 0, 3, 8, 8, 0, 1, 0, 0, 64, 64,
		0, 0, 1, 4, 0, 1, 0, 0, 0, 0, 0, 0, 0, 0, 0, 0, 0,
		0, 1, 0, 1, 0, 0, 1, 2, 0, 0, 0, 0, 0, 0, 0, 0, 0,
		2, 2, 2,
		3, 89,
	})
	if n := table.Size(good()); n != goodLen {
		t.Errorf("Size of good tells %d", n)
	}
}

// filled is a config of so many partitions, windows and channels, of mixed owners and kinds.
func filled(partitions, windows, channels, from int) api.Config {
	c := api.Config{Partitions: partitions, Frame: 3*windows + 1}
	for i := range windows {
		c.Windows = append(c.Windows, api.Window{Owner: (from+i)%(partitions+1) - 1, Start: 3 * i, Len: 1 + (from+i)%3})
	}
	for i := range channels {
		a, b := (from+i)%partitions, (from+i+1)%partitions
		k := sampling(a, b)
		if (from>>i)&1 == 0 {
			k = queuing(b, a)
		}
		c.Channels = append(c.Channels, k)
	}
	for i := range partitions {
		c.Actions = append(c.Actions, (from+i)%3)
	}
	return c
}

func TestEachNumberOfPartitionsWindowsAndChannels(t *testing.T) {
	for partitions := 1; partitions <= 4; partitions++ {
		for windows := 1; windows <= 8; windows++ {
			for channels := range 7 {
				if partitions == 1 && channels > 0 {
					continue
				}
				for _, from := range []int{0, 1, 5, 22, 63} {
					c := filled(partitions, windows, channels, from)
					may(t, "a config", c)
					if got, want := table.Size(c), 9+3*windows+17*channels+partitions; got != want {
						t.Errorf("Size tells %d, not %d", got, want)
					}
				}
			}
		}
	}
}

func TestListsWithoutElements(t *testing.T) {
	c := plain(1)
	for _, none := range [][]api.Channel{nil, {}} {
		c.Channels = none
		may(t, "no channels", c)
	}
}

func TestEachOwner(t *testing.T) {
	for partitions := 1; partitions <= 4; partitions++ {
		for _, owner := range []int{least, -257, -256, -255, -2, -1, 0, 1, 2, 3, 4, 5, 254, 255, 256, 257, 511, 1<<32 - 1, 1 << 32, most} {
			c := plain(partitions)
			c.Windows[0].Owner = owner
			if -1 <= owner && owner < partitions {
				may(t, "an owner", c)
			} else {
				mayNot(t, "no owner", c)
			}
		}
		for owner := range 256 {
			b := inner(plain(partitions))
			b[5] = byte(owner)
			c := plain(partitions)
			c.Windows[0].Owner = owner
			if owner == 255 {
				c.Windows[0].Owner = api.Router
			}
			if owner == 255 || owner < partitions {
				tells(t, "an owner's byte", sealed(b), c, api.NoError)
			} else {
				refused(t, "no owner's byte", sealed(b), api.InvalidConfig)
			}
		}
	}
}

// number is one of good: where it lies, where its bytes do, how many these are, what it may be.
type number struct {
	name                string
	in                  func(c *api.Config) *int
	at, size, low, high int
}

// windowNumbers are those of good's windows, in their row.
func windowNumbers() []number {
	return []number{
		{"the first Owner", func(c *api.Config) *int { return &c.Windows[0].Owner }, 5, 1, 0, 3},
		{"the first Start", func(c *api.Config) *int { return &c.Windows[0].Start }, 6, 1, 0, 10},
		{"the first Len", func(c *api.Config) *int { return &c.Windows[0].Len }, 7, 1, 1, 15},
		{"the second Owner", func(c *api.Config) *int { return &c.Windows[1].Owner }, 8, 1, 0, 3},
		{"the second Start", func(c *api.Config) *int { return &c.Windows[1].Start }, 9, 1, 15, 30},
		{"the second Len", func(c *api.Config) *int { return &c.Windows[1].Len }, 10, 1, 1, 40},
	}
}

// channelNumbers are those of one of good's channels.
func channelNumbers(i int) []number {
	at := atChannels + 1 + 17*i
	l := []number{
		{"Kind", func(c *api.Config) *int { return &c.Channels[i].Kind }, at, 1, i, i},
		{"From", func(c *api.Config) *int { return &c.Channels[i].From }, at + 1, 1, []int{0, 0}[i], []int{0, 2}[i]},
		{"To", func(c *api.Config) *int { return &c.Channels[i].To }, at + 2, 1, []int{1, 3}[i], []int{3, 3}[i]},
		{"Words", func(c *api.Config) *int { return &c.Channels[i].Words }, at + 3, 1, 1, 4},
		{"Refresh", func(c *api.Config) *int { return &c.Channels[i].Refresh }, at + 4, 4, 0, 0},
		{"Lanes", func(c *api.Config) *int { return &c.Channels[i].Lanes }, at + 8, 1, 1, 3},
		{"Depth", func(c *api.Config) *int { return &c.Channels[i].Depth }, at + 9, 1, 1, 8},
		{"Hold", func(c *api.Config) *int { return &c.Channels[i].Hold }, at + 10, 1, 1, 8},
		{"Life", func(c *api.Config) *int { return &c.Channels[i].Life }, at + 11, 4, 1, 65536},
		{"Rate", func(c *api.Config) *int { return &c.Channels[i].Rate }, at + 15, 1, 0, 64},
		{"Cap", func(c *api.Config) *int { return &c.Channels[i].Cap }, at + 16, 1, 1, 64},
	}
	if i == 0 {
		l[4].low, l[4].high = 1, 65536
		for n := 5; n < len(l); n++ {
			l[n].low, l[n].high = 0, 0
		}
	}
	return l
}

// allNumbers are those of good, but the counts.
func allNumbers() []number {
	l := []number{
		{"Partitions", func(c *api.Config) *int { return &c.Partitions }, 2, 1, 4, 4},
		{"Frame", func(c *api.Config) *int { return &c.Frame }, 3, 1, 50, 64},
	}
	l = slices.Concat(l, windowNumbers(), channelNumbers(0), channelNumbers(1))
	for i := range 4 {
		l = append(l, number{"an Action", func(c *api.Config) *int { return &c.Actions[i] }, atActions + 1 + i, 1, 0, 2})
	}
	return l
}

// bytesWith are good's with another number there, sealed.
func bytesWith(x number, v int) []byte {
	b := inner(good())
	return sealed(slices.Replace(b, x.at, x.at+x.size, put(nil, x.size, v)...))
}

func TestEachNumberAtItsEnds(t *testing.T) {
	for _, x := range allNumbers() {
		for _, v := range []int{x.low, x.high, (x.low + x.high) / 2} {
			c := turned(func(c *api.Config) { *x.in(c) = v })
			has(t, x.name, c, bytesWith(x, v))
		}
		for _, v := range []int{x.low - 1, x.high + 1} {
			if v < 0 {
				continue
			}
			refused(t, x.name, bytesWith(x, v), api.InvalidConfig)
			mayNot(t, x.name, turned(func(c *api.Config) { *x.in(c) = v }))
		}
	}
}

// What has the same bytes as a number that may be, if one cuts it, has none.
func TestNumbersThatNoBytesAreOf(t *testing.T) {
	for _, x := range allNumbers() {
		for _, v := range []int{x.low, x.high} {
			for _, by := range []int{256, -256, 1 << 16, -1 << 16, 1 << 32, -1 << 32, 1 << 40, least} {
				c := turned(func(c *api.Config) { *x.in(c) = v + by })
				if _, e := config.Check(c); e == api.NoError {
					continue // a Life of 65536 less 65536 and a few more is one
				}
				mayNot(t, x.name, c)
			}
		}
		for _, v := range []int{least, least + 1, -2, most - 1, most} {
			mayNot(t, x.name, turned(func(c *api.Config) { *x.in(c) = v }))
		}
	}
}

// The four bytes of Refresh and Life: far above what may be, too.
func TestNumbersOfFourBytes(t *testing.T) {
	for i, x := range []number{channelNumbers(0)[4], channelNumbers(1)[8]} {
		for _, v := range []int{0, 1, 2, 255, 256, 257, 258, 65279, 65280, 65535, 65536, 65537, 65538, 1 << 17, 1 << 24, 1<<24 + 1, 1<<31 - 1, 1 << 31, 1<<31 + 1, 1<<32 - 2, 1<<32 - 1} {
			if v < 1 || v > 65536 {
				refused(t, x.name, bytesWith(x, v), api.InvalidConfig)
				continue
			}
			c := turned(func(c *api.Config) { *x.in(c) = v })
			has(t, x.name, c, bytesWith(x, v))
			b := inner(c)
			if got := b[x.at : x.at+4]; !bytes.Equal(got, []byte{0, byte(v >> 16), byte(v >> 8), byte(v)}) {
				t.Errorf("%d: %v", i, got)
			}
		}
	}
}

func TestEachFrame(t *testing.T) {
	for frame := range 256 {
		c := plain(1)
		c.Frame, c.Windows[0].Len = frame, 1
		if 1 <= frame && frame <= 64 {
			may(t, "Frame", c)
			continue
		}
		mayNot(t, "Frame", c)
		refused(t, "Frame", sealed(inner(c)), api.InvalidConfig)
	}
}

func TestEachNumberOfPartitions(t *testing.T) {
	for partitions := range 256 {
		c := plain(partitions)
		if 1 <= partitions && partitions <= 4 {
			may(t, "Partitions", c)
			continue
		}
		mayNot(t, "Partitions", c)
		refused(t, "Partitions", sealed(inner(c)), api.InvalidConfig)
	}
}

// wrongs turn something of good so that it may not be: at least one of each part.
func wrongs() []func(c *api.Config) {
	return []func(c *api.Config){
		func(c *api.Config) { c.Partitions = 0 },
		func(c *api.Config) { c.Partitions = 5 },
		func(c *api.Config) { c.Frame = 0 },
		func(c *api.Config) { c.Frame = 65 },
		func(c *api.Config) { c.Windows = nil },
		func(c *api.Config) { c.Windows = []api.Window{} },
		func(c *api.Config) { c.Windows = make([]api.Window, 9) },
		func(c *api.Config) { c.Windows[0].Owner = 4 },
		func(c *api.Config) { c.Windows[1].Start = 14 },
		func(c *api.Config) { c.Windows[1].Len = 41 },
		func(c *api.Config) { c.Windows[0].Len = 0 },
		func(c *api.Config) { c.Channels = slices.Repeat([]api.Channel{sampling(0, 1)}, 7) },
		func(c *api.Config) { c.Channels[0].Refresh = 0 },
		func(c *api.Config) { c.Channels[0].Lanes = 1 },
		func(c *api.Config) { c.Channels[1].Refresh = 1 },
		func(c *api.Config) { c.Channels[1].To = 2 },
		func(c *api.Config) { c.Channels[1].Kind = 2 },
		func(c *api.Config) { c.Actions = nil },
		func(c *api.Config) { c.Actions = c.Actions[:3] },
		func(c *api.Config) { c.Actions = append(c.Actions, 0) },
		func(c *api.Config) { c.Actions[3] = 3 },
	}
}

func TestConfigsThatMayNotBe(t *testing.T) {
	mayNot(t, "the zero config", api.Config{})
	refused(t, "the zero config", sealed(inner(api.Config{})), api.InvalidConfig)
	for _, turn := range wrongs() {
		mayNot(t, "one that may not be", turned(turn))
		b := inner(turned(turn))
		refused(t, "bytes of one that may not be", sealed(b), api.InvalidConfig)
		// What is amiss of the bytes themselves is told ahead of it.
		refused(t, "one that may not be, cut", sealed(b[:len(b)-1]), api.ErrShort)
		refused(t, "one that may not be, and one byte more", sealed(append(b[:len(b):len(b)], 0)), api.ErrForm)
	}
	mayNot(t, "more windows than a byte tells", turned(func(c *api.Config) { c.Windows = make([]api.Window, 257) }))
	mayNot(t, "more channels than a byte tells", turned(func(c *api.Config) { c.Channels = slices.Repeat(c.Channels, 129) }))
	mayNot(t, "more Actions than a byte tells", turned(func(c *api.Config) { c.Actions = make([]int, 260) }))
}

func TestDecodeOfFewBytes(t *testing.T) {
	for _, x := range []struct {
		b    []byte
		want api.Errno
	}{
		{nil, api.ErrShort},
		{[]byte{}, api.ErrShort},
		{[]byte{0}, api.ErrShort},
		{[]byte{1}, api.ErrShort},
		{[]byte{231}, api.ErrShort},
		{[]byte{0, 0}, api.ErrShort},
		{[]byte{0, 1}, api.ErrForm},
		{[]byte{1, 0}, api.ErrForm},
		{[]byte{231, 1}, api.ErrForm},
		{[]byte{0, 231}, api.ErrForm},
		{[]byte{231, 0, 231}, api.ErrShort},
		{[]byte{231, 0, 230}, api.ErrForm},
		{[]byte{230, 0, 230}, api.ErrShort},
		{[]byte{0, 0, 0}, api.ErrShort},
		{[]byte{1, 0, 1}, api.ErrShort},
		{[]byte{231, 1, 0, 232}, api.ErrShort},
		{[]byte{231, 1, 0, 231}, api.ErrForm},
		{[]byte{231, 1, 1, 232}, api.ErrForm},
		{[]byte{231, 2, 0, 233}, api.ErrForm},
		{[]byte{231, 0, 0, 231}, api.ErrForm},
		{[]byte{230, 1, 0, 231}, api.ErrForm},
		{[]byte{1, 231, 0, 232}, api.ErrForm},
		{[]byte{0, 0, 0, 0}, api.ErrForm},
		{[]byte{231, 1, 1, 0, 233}, api.ErrShort},
		{[]byte{231, 1, 0, 0, 0, 0, 0, 0, 232}, api.InvalidConfig},
		{[]byte{231, 1, 0, 0, 0, 0, 0, 0, 0, 232}, api.ErrForm},
	} {
		refused(t, "few bytes", x.b, x.want)
	}
	for x := range 256 {
		refused(t, "one byte", []byte{byte(x)}, api.ErrShort)
		refused(t, "one byte, sealed", sealed([]byte{byte(x)}), api.ErrShort)
	}
}

func TestDecodeOfWrongSums(t *testing.T) {
	b := inner(good())
	for _, by := range []int{1, -1, 2, 255, 256, -256, 257, 512, 1 << 15} {
		right := sealed(b)
		sum := int(right[goodLen-2])*256 + int(right[goodLen-1])
		refused(t, "a wrong sum", put(slices.Clone(b), 2, (sum+by)&65535), api.ErrForm)
	}
	refused(t, "no sum", b, api.ErrForm)
	refused(t, "a sum turned round", append(slices.Clone(b), 138, 3), api.ErrForm)
	// Bytes that are changed so that their sum stays are not seen.
	b[6], b[7] = b[6]-1, b[7]+1
	c := turned(func(c *api.Config) { c.Windows[0].Start, c.Windows[0].Len = 4, 11 })
	tells(t, "the same sum", sealed(b), c, api.NoError)
}

func TestTheFirstTwoBytes(t *testing.T) {
	whole := inner(good())
	invalid := inner(turned(func(c *api.Config) { c.Frame = 65 }))
	rests := [][]byte{whole[2:], whole[2:10], nil, append(slices.Clone(whole[2:]), 9), invalid[2:]}
	codes := []api.Errno{api.NoError, api.ErrShort, api.ErrShort, api.ErrForm, api.InvalidConfig}
	for x := range 256 {
		for i, rest := range rests {
			for _, b := range [][]byte{{byte(x), 1}, {231, byte(x)}, {byte(x), 2}, {230, byte(x)}, {byte(x), byte(x)}} {
				code, want := api.ErrForm, api.Config{}
				if b[0] == 231 && b[1] == 1 {
					code = codes[i]
					if code == api.NoError {
						want = good()
					}
				}
				tells(t, "the first two bytes", sealed(append(b, rest...)), want, code)
			}
		}
	}
}

// some are configs that may be, of each shape.
func some() []api.Config {
	return []api.Config{good(), plain(1), plain(4), filled(3, 8, 6, 21), filled(2, 1, 1, 0), filled(4, 2, 2, 3)}
}

func TestBytesThatAreCut(t *testing.T) {
	for _, c := range some() {
		b := inner(c)
		for n := range len(b) {
			refused(t, "cut, and sealed again", sealed(b[:n]), api.ErrShort)
		}
		whole := sealed(b)
		for n := range len(whole) {
			want := api.ErrForm
			if n < 2 {
				want = api.ErrShort
			}
			refused(t, "cut", whole[:n], want)
		}
	}
}

func TestBytesTooMany(t *testing.T) {
	for _, c := range some() {
		b := inner(c)
		for n := 1; n <= 20; n++ {
			for _, x := range []byte{0, 1, 231, 255} {
				more := append(b[:len(b):len(b)], bytes.Repeat([]byte{x}, n)...)
				refused(t, "bytes too many, sealed again", sealed(more), api.ErrForm)
			}
		}
		refused(t, "sealed twice", sealed(sealed(b)), api.ErrForm)
		refused(t, "twice", sealed(append(b[:len(b):len(b)], b...)), api.ErrForm)
		refused(t, "a million bytes too many", sealed(append(b[:len(b):len(b)], make([]byte, 1000000)...)), api.ErrForm)
	}
}

func TestCountsThatAreGreater(t *testing.T) {
	b := inner(good())
	for _, at := range []int{atWindows, atChannels, atActions} {
		was := b[at]
		for n := range 256 {
			b[at] = byte(n)
			want, code := decoded(b)
			if n == int(was) && code != api.NoError || n != int(was) && code == api.NoError {
				t.Errorf("a count of %d at %d: %v", n, at, code)
			}
			if n >= 30 && code != api.ErrShort {
				t.Errorf("a count of %d at %d: %v", n, at, code)
			}
			tells(t, "a count", sealed(b), want, code)
		}
		b[at] = was
	}
}

// Counts that are kept, of more than may be.
func TestCountsOfTooMany(t *testing.T) {
	for _, n := range []int{9, 10, 64, 254, 255} {
		c := turned(func(c *api.Config) { c.Windows = make([]api.Window, n) })
		refused(t, "windows", sealed(inner(c)), api.InvalidConfig)
		c = turned(func(c *api.Config) { c.Channels = slices.Repeat([]api.Channel{queuing(0, 1)}, n) })
		refused(t, "channels", sealed(inner(c)), api.InvalidConfig)
		refused(t, "channels, one byte cut", sealed(inner(c)[:len(inner(c))-1]), api.ErrShort)
		c = turned(func(c *api.Config) { c.Actions = make([]int, n) })
		refused(t, "Actions", sealed(inner(c)), api.InvalidConfig)
		refused(t, "Actions, one byte more", sealed(append(inner(c), 0)), api.ErrForm)
	}
	c := turned(func(c *api.Config) {
		c.Windows, c.Channels, c.Actions = make([]api.Window, 255), make([]api.Channel, 255), make([]int, 255)
	})
	refused(t, "255 of all", sealed(inner(c)), api.InvalidConfig)
	refused(t, "255 and nothing behind", sealed([]byte{231, 1, 1, 4, 255}), api.ErrShort)
	refused(t, "255 channels and nothing behind", sealed([]byte{231, 1, 1, 4, 1, 0, 0, 4, 255}), api.ErrShort)
	refused(t, "255 Actions and nothing behind", sealed([]byte{231, 1, 1, 4, 1, 0, 0, 4, 0, 255}), api.ErrShort)
}

// roomy is a copy with room behind, which is full of 77.
func roomy(b []byte) []byte {
	all := append(slices.Clone(b), bytes.Repeat([]byte{77}, 16)...)
	return all[:len(b)]
}

// spoil turns each byte, and those in the room behind.
func spoil(b []byte) {
	b = b[:cap(b)]
	for i := range b {
		b[i] ^= 255
	}
}

// spoilConfig turns what each list holds, and what is in the room behind.
func spoilConfig(c api.Config) {
	windows, channels, actions := c.Windows[:cap(c.Windows)], c.Channels[:cap(c.Channels)], c.Actions[:cap(c.Actions)]
	for i := range windows {
		windows[i] = api.Window{Owner: 66, Start: 66, Len: 66}
	}
	for i := range channels {
		channels[i] = api.Channel{Kind: 66, Life: 66}
	}
	for i := range actions {
		actions[i] = 66
	}
}

func TestEncodeNeitherChangesNorKeeps(t *testing.T) {
	c := good()
	c.Windows = append(c.Windows, api.Window{Owner: 77, Start: 77, Len: 77})[:2]
	c.Channels = append(c.Channels, api.Channel{Kind: 77, Cap: 77})[:2]
	c.Actions = append(c.Actions, 77)[:4]
	one, _ := table.Encode(c)
	two, _ := table.Encode(c)
	table.Size(c)
	if !reflect.DeepEqual(c, good()) {
		t.Errorf("what was handed in is %+v", c)
	}
	if c.Windows[:3][2].Owner != 77 || c.Channels[:3][2].Kind != 77 || c.Actions[:5][4] != 77 {
		t.Error("the room behind what was handed in is touched")
	}
	spoil(one)
	if !reflect.DeepEqual(c, good()) || !bytes.Equal(two, sealed(inner(good()))) {
		t.Error("what was answered shares memory")
	}
	spoilConfig(c)
	if !bytes.Equal(two, sealed(inner(good()))) {
		t.Error("what was handed in is kept")
	}
	_ = append(two[:3], 99)
	has(t, "behind all that", good(), sealed(inner(good())))
}

// Not even while a call is under way is what is handed in another: others that are handed the same would tell.
func TestEncodeOfOneConfigAtOnce(t *testing.T) {
	c := plain(1)
	c.Frame, c.Windows = 8, nil
	for i := range 8 {
		c.Windows = append(c.Windows, api.Window{Owner: api.Router, Start: i, Len: 1})
	}
	want := sealed(inner(c))
	var all sync.WaitGroup
	for range 4 {
		all.Go(func() {
			for range 2000 {
				if got, e := table.Encode(c); !bytes.Equal(got, want) || e != api.NoError {
					t.Errorf("Encode tells %v, %v", got, e)
					return
				}
			}
		})
	}
	all.Wait()
}

func TestDecodeNeitherChangesNorKeeps(t *testing.T) {
	was := sealed(inner(good()))
	b := roomy(was)
	one, _ := table.Decode(b)
	two, _ := table.Decode(b)
	table.Count(b)
	spoilConfig(one)
	_ = append(one.Windows, api.Window{})
	if !bytes.Equal(b[:len(b)+16], append(slices.Clone(was), bytes.Repeat([]byte{77}, 16)...)) {
		t.Errorf("what was handed in is %v", b[:len(b)+16])
	}
	if !config.Same(two, good()) {
		t.Errorf("what was answered shares memory: %+v", two)
	}
	spoil(b)
	if !config.Same(two, good()) {
		t.Errorf("what was handed in is kept: %+v", two)
	}
	tells(t, "behind all that", was, good(), api.NoError)
}

// What a call answers hangs on nothing that was asked ahead of it.
func TestNothingIsKept(t *testing.T) {
	for range 3 {
		for i, c := range some() {
			may(t, "in a row", c)
			refused(t, "in a row", sealed(inner(c)[:i+1]), api.ErrShort)
			mayNot(t, "in a row", turned(wrongs()[i]))
			refused(t, "in a row", sealed([]byte{0, byte(i)}), api.ErrForm)
		}
	}
}

// mixed is a config that may be, the same in each run.
func mixed(r *rand.Rand) api.Config {
	c := api.Config{Partitions: 1 + r.IntN(4), Frame: 1 + r.IntN(64)}
	for end := 0; end < c.Frame && len(c.Windows) < 8 && (end == 0 || r.IntN(5) > 0); {
		w := api.Window{Owner: r.IntN(c.Partitions+1) - 1, Start: end + r.IntN(min(3, c.Frame-end))}
		w.Len = 1 + r.IntN(min(20, c.Frame-w.Start))
		c.Windows, end = append(c.Windows, w), w.Start+w.Len
	}
	for c.Partitions > 1 && len(c.Channels) < 6 && r.IntN(5) > 0 {
		from := r.IntN(c.Partitions)
		c.Channels = append(c.Channels, mixedChannel(r, from, (from+1+r.IntN(c.Partitions-1))%c.Partitions))
	}
	for range c.Partitions {
		c.Actions = append(c.Actions, r.IntN(3))
	}
	return c
}

func mixedChannel(r *rand.Rand, from, to int) api.Channel {
	if r.IntN(2) == 0 {
		return api.Channel{Kind: api.Sampling, From: from, To: to, Words: 1 + r.IntN(4), Refresh: 1 + r.IntN(65536)}
	}
	return api.Channel{
		Kind: api.Queuing, From: from, To: to, Words: 1 + r.IntN(4), Lanes: 1 + r.IntN(3), Depth: 1 + r.IntN(8),
		Hold: 1 + r.IntN(8), Life: 1 + r.IntN(65536), Rate: r.IntN(65), Cap: 1 + r.IntN(64),
	}
}

func TestWhatIsWrittenIsRead(t *testing.T) {
	r := rand.New(rand.NewPCG(3, 5))
	for range 5000 {
		c := mixed(r)
		may(t, "a mixed config", c)
		b, _ := table.Encode(c)
		if d, e := table.Decode(b); !config.Same(c, d) || e != api.NoError {
			t.Fatalf("%+v is read as %+v, %v", c, d, e)
		}
	}
}

// again fails unless Decode tells what the record tells of the inner bytes, and Encode writes what was read so; it tells whether they were read.
func again(t *testing.T, b []byte) bool {
	t.Helper()
	want, code := decoded(b)
	tells(t, "bytes", sealed(b), want, code)
	c, e := table.Decode(sealed(b))
	if e != api.NoError {
		return false
	}
	if got, e := table.Encode(c); !bytes.Equal(got, sealed(b)) || e != api.NoError {
		t.Errorf("%v is written as %v, %v", sealed(b), got, e)
	}
	return true
}

// Each byte of what is sealed is turned to each other one, and all is sealed again.
func TestBytesThatAreReadAreWrittenSo(t *testing.T) {
	for _, c := range some() {
		b := inner(c)
		read := 0
		for i, was := range b {
			for x := range 256 {
				b[i] = byte(x)
				if again(t, b) {
					read++
				}
			}
			b[i] = was
		}
		if read < len(b) {
			t.Errorf("only %d are read", read)
		}
	}
}

// Bytes that are put in, taken out and turned, some of each config's.
func TestMixedBytesAreWrittenSo(t *testing.T) {
	r := rand.New(rand.NewPCG(7, 9))
	read := 0
	for range 20000 {
		b := inner(mixed(r))
		for range r.IntN(4) {
			i := r.IntN(len(b))
			switch r.IntN(4) {
			case 0:
				b = slices.Insert(b, i, byte(r.IntN(256)))
			case 1:
				b = slices.Delete(b, i, i+1)
			case 2:
				b[i] = byte(r.IntN(9))
			default:
				b[i] = byte(r.IntN(256))
			}
		}
		if again(t, b) {
			read++
		}
	}
	if read < 2000 {
		t.Errorf("only %d are read", read)
	}
}

func TestOneByteThatIsTurnedIsSeen(t *testing.T) {
	for _, c := range some() {
		b, _ := table.Encode(c)
		for i, was := range b {
			for x := range 256 {
				if byte(x) == was {
					continue
				}
				b[i] = byte(x)
				refused(t, "one byte turned", b, api.ErrForm)
			}
			b[i] = was
		}
		tells(t, "turned back", b, c, api.NoError)
	}
}
