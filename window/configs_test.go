package window_test

import (
	"maps"
	"math"
	"math/rand/v2"
	"slices"

	"empennage/api"
)

const top = api.MaxTick

// cut is the number of a tick that is nearest to n.
func cut(n int) int { return min(max(n, 0), 1<<62) }

// sampling is a channel that is right where there are both partitions.
func sampling(from, to int) api.Channel {
	return api.Channel{Kind: api.Sampling, From: from, To: to, Words: 2, Refresh: 5}
}

// queuing is likewise one.
func queuing(from, to int) api.Channel {
	return api.Channel{
		Kind: api.Queuing, From: from, To: to, Words: 3, Lanes: 2, Depth: 4, Hold: 5, Life: 60, Rate: 3, Cap: 7,
	}
}

// channels are as many as the text has letters: s of Sampling, others of Queuing.
func channels(kinds string) []api.Channel {
	var l []api.Channel
	for i, kind := range kinds {
		if kind == 's' {
			l = append(l, sampling(i%2, 1-i%2))
			continue
		}
		l = append(l, queuing(1-i%2, i%2))
	}
	return l
}

// of is a config of two partitions that may be, if the windows may.
func of(frame int, kinds string, windows ...api.Window) api.Config {
	return api.Config{Partitions: 2, Frame: frame, Windows: windows, Channels: channels(kinds), Actions: []int{0, 2}}
}

// alone is a config of one partition, which has no channels.
func alone(frame int, windows ...api.Window) api.Config {
	return api.Config{Partitions: 1, Frame: frame, Windows: windows, Actions: []int{1}}
}

// example is that of the chapter, with channels.
func example() api.Config {
	return of(10, "sqq", api.Window{Owner: 0, Start: 0, Len: 3}, api.Window{Owner: api.Router, Start: 8, Len: 2})
}

// even is a frame with windows of one length behind each other, a gap ahead of each; the owners take turns from the router on.
func even(windows, length, gap, partitions int, kinds string) api.Config {
	c := api.Config{Partitions: partitions, Frame: windows * (length + gap), Channels: channels(kinds), Actions: make([]int, partitions)}
	for i := range windows {
		c.Windows = append(c.Windows, api.Window{Owner: i%(partitions+1) - 1, Start: i*(length+gap) + gap, Len: length})
	}
	return c
}

// good are configs that may be.
func good() map[string]api.Config {
	const router = api.Router
	return map[string]api.Config{
		"the example":                    example(),
		"one tick, a partition's":        alone(1, api.Window{Owner: 0, Start: 0, Len: 1}),
		"one tick, the router's":         of(1, "q", api.Window{Owner: router, Start: 0, Len: 1}),
		"one tick, served by turns":      of(1, "sqqsqq", api.Window{Owner: router, Start: 0, Len: 1}),
		"a whole frame, a partition's":   alone(4, api.Window{Owner: 0, Start: 0, Len: 4}),
		"a whole frame, the router's":    of(7, "qqq", api.Window{Owner: router, Start: 0, Len: 7}),
		"the greatest frame, whole":      of(64, "qsqsq", api.Window{Owner: router, Start: 0, Len: 64}),
		"the greatest, a partition's":    of(64, "qq", api.Window{Owner: 1, Start: 0, Len: 64}),
		"the greatest frame, one tick":   of(64, "qqqqqq", api.Window{Owner: router, Start: 63, Len: 1}),
		"its first tick alone":           of(64, "q", api.Window{Owner: router, Start: 0, Len: 1}),
		"the first tick, and the last":   of(9, "qsq", api.Window{Owner: router, Start: 0, Len: 1}, api.Window{Owner: router, Start: 8, Len: 1}),
		"without the router":             of(9, "qqq", api.Window{Owner: 0, Start: 1, Len: 3}, api.Window{Owner: 1, Start: 4, Len: 4}),
		"without partitions":             of(9, "sqqs", api.Window{Owner: router, Start: 2, Len: 5}),
		"two behind each other, of one":  of(9, "qq", api.Window{Owner: router, Start: 2, Len: 2}, api.Window{Owner: router, Start: 4, Len: 1}, api.Window{Owner: 0, Start: 6, Len: 2}, api.Window{Owner: 0, Start: 8, Len: 1}),
		"one among another one's":        of(11, "sq", api.Window{Owner: 1, Start: 0, Len: 3}, api.Window{Owner: router, Start: 3, Len: 5}, api.Window{Owner: 1, Start: 8, Len: 3}),
		"no channels":                    of(5, "", api.Window{Owner: 0, Start: 0, Len: 2}, api.Window{Owner: router, Start: 3, Len: 2}),
		"one sampling channel":           of(5, "s", api.Window{Owner: 0, Start: 0, Len: 2}, api.Window{Owner: router, Start: 3, Len: 2}),
		"sampling channels alone":        of(5, "ssssss", api.Window{Owner: 0, Start: 0, Len: 2}, api.Window{Owner: router, Start: 3, Len: 2}),
		"queuing channels alone":         of(5, "qqqqqq", api.Window{Owner: 0, Start: 0, Len: 2}, api.Window{Owner: router, Start: 3, Len: 2}),
		"a sampling channel ahead":       of(6, "sq", api.Window{Owner: router, Start: 1, Len: 3}),
		"sampling channels ahead":        of(6, "sssqq", api.Window{Owner: router, Start: 1, Len: 3}),
		"a sampling channel among":       of(6, "qsqsq", api.Window{Owner: router, Start: 1, Len: 4}),
		"a sampling channel behind":      of(6, "qs", api.Window{Owner: router, Start: 1, Len: 3}),
		"eight windows of a tick":        even(8, 1, 0, 3, "qqsqq"),
		"eight windows with gaps":        even(8, 1, 2, 4, "qqs"),
		"eight windows of eight ticks":   even(8, 8, 0, 4, "qqqqq"),
		"eight windows of five ticks":    even(8, 5, 2, 2, "qsqqsq"),
		"the last tick is no one's":      of(13, "qqq", api.Window{Owner: 0, Start: 3, Len: 4}, api.Window{Owner: router, Start: 9, Len: 3}),
		"a frame of 63, the router's 31": of(63, "qqqqq", api.Window{Owner: router, Start: 31, Len: 31}),
	}
}

// turned is the example, with something turned.
func turned(turn func(c *api.Config)) api.Config {
	c := example()
	turn(&c)
	return c
}

// windowed is the example, with something turned of a window of its.
func windowed(n int, turn func(w *api.Window)) api.Config {
	return turned(func(c *api.Config) { turn(&c.Windows[n]) })
}

// channelled is the example, with something turned of a channel of its.
func channelled(n int, turn func(k *api.Channel)) api.Config {
	return turned(func(c *api.Config) { turn(&c.Channels[n]) })
}

// bad are configs that may not be: most of them by one number alone.
func bad() map[string]api.Config {
	const least, most = math.MinInt, math.MaxInt
	return map[string]api.Config{
		"the zero config":                {},
		"no partitions":                  turned(func(c *api.Config) { c.Partitions, c.Actions = 0, nil }),
		"five partitions":                turned(func(c *api.Config) { c.Partitions, c.Actions = 5, make([]int, 5) }),
		"the least Partitions":           turned(func(c *api.Config) { c.Partitions = least }),
		"the greatest Partitions":        turned(func(c *api.Config) { c.Partitions = most }),
		"a frame of 0":                   turned(func(c *api.Config) { c.Frame = 0 }),
		"a frame below 0":                turned(func(c *api.Config) { c.Frame = -10 }),
		"a frame of 65":                  turned(func(c *api.Config) { c.Frame = 65 }),
		"the least Frame":                turned(func(c *api.Config) { c.Frame = least }),
		"the greatest Frame":             turned(func(c *api.Config) { c.Frame = most }),
		"a frame that ends too soon":     turned(func(c *api.Config) { c.Frame = 9 }),
		"no windows":                     turned(func(c *api.Config) { c.Windows = nil }),
		"an empty list of windows":       turned(func(c *api.Config) { c.Windows = []api.Window{} }),
		"nine windows":                   even(9, 1, 0, 3, "qq"),
		"an owner that isn't there":      windowed(0, func(w *api.Window) { w.Owner = 2 }),
		"an owner below the router":      windowed(1, func(w *api.Window) { w.Owner = -2 }),
		"the greatest Owner":             windowed(0, func(w *api.Window) { w.Owner = most }),
		"a Len of 0":                     windowed(0, func(w *api.Window) { w.Len = 0 }),
		"a Len below 0":                  windowed(1, func(w *api.Window) { w.Len = -1 }),
		"the greatest Len":               windowed(0, func(w *api.Window) { w.Len = most }),
		"the greatest Len, behind":       windowed(1, func(w *api.Window) { w.Len = most }),
		"the least Len":                  windowed(0, func(w *api.Window) { w.Len = least }),
		"a Start below 0":                windowed(0, func(w *api.Window) { w.Start = -1 }),
		"the least Start":                windowed(0, func(w *api.Window) { w.Start = least }),
		"the greatest Start":             windowed(1, func(w *api.Window) { w.Start = most }),
		"a sum that runs over":           windowed(1, func(w *api.Window) { w.Start, w.Len = most, 2 }),
		"one tick in two windows":        windowed(1, func(w *api.Window) { w.Start = 2 }),
		"windows in the other row":       turned(func(c *api.Config) { slices.Reverse(c.Windows) }),
		"seven channels":                 turned(func(c *api.Config) { c.Channels = channels("qqqqqqq") }),
		"a kind of channel that isn't":   channelled(0, func(k *api.Channel) { k.Kind = 2 }),
		"a channel from where it leads":  channelled(1, func(k *api.Channel) { k.To = k.From }),
		"a channel from nowhere":         channelled(2, func(k *api.Channel) { k.From = 2 }),
		"a channel without words":        channelled(1, func(k *api.Channel) { k.Words = 0 }),
		"a sampling channel's Refresh":   channelled(0, func(k *api.Channel) { k.Refresh = 0 }),
		"a queuing channel's Refresh":    channelled(2, func(k *api.Channel) { k.Refresh = 1 }),
		"a queuing channel's Cap":        channelled(2, func(k *api.Channel) { k.Cap = 65 }),
		"no Actions":                     turned(func(c *api.Config) { c.Actions = nil }),
		"an Action too few":              turned(func(c *api.Config) { c.Actions = c.Actions[:1] }),
		"an Action too many":             turned(func(c *api.Config) { c.Actions = make([]int, 3) }),
		"an Action that isn't":           turned(func(c *api.Config) { c.Actions[1] = 3 }),
		"an Action below 0":              turned(func(c *api.Config) { c.Actions[0] = -1 }),
		"one partition, and its channel": turned(func(c *api.Config) { c.Partitions, c.Actions = 1, []int{0} }),
	}
}

// inRow is the configs, in the row of their names: drawn tests are the same each time.
func inRow(named map[string]api.Config) []api.Config {
	var l []api.Config
	for _, name := range slices.Sorted(maps.Keys(named)) {
		l = append(l, named[name])
	}
	return l
}

// owners are the router, all partitions there may be, and some there aren't.
func owners() []int {
	return []int{
		api.Router, 0, 1, 2, 3, 4, 5, -2, -3, 63, 64, 255, 256, 1<<32 - 1, 1 << 32, 1<<32 + 1, -1 << 32, top - 1, top, -top,
		math.MinInt, math.MinInt + 1, math.MaxInt - 1, math.MaxInt,
	}
}

// ends are numbers at the ends of what a tick, or an int, may be.
func ends() []int {
	return []int{
		math.MinInt, math.MinInt + 1, -top - 1, -top, -1 << 32, -65, -2, -1, 0, 1, 2,
		top - 1, top, top + 1, top + 2, top + 64, math.MaxInt - 1, math.MaxInt,
	}
}

// times are ticks: each phase of the first frames, of some much later, and of those about 2^62; and the ends.
func times(frame int) []int {
	l := ends()
	for _, first := range []int{0, 1000 * frame, 1<<32 - frame, 1 << 40, top/2 - frame, top - 2*frame} {
		for n := range 3*frame + 2 {
			l = append(l, first+n)
		}
	}
	return l
}

// counts are numbers of an owner's ticks, of which a frame of so many has so many.
func counts(frame, count int) []int {
	l := ends()
	// Behind these a product without bounds were more than 2^62, than an int, and just above 0 again.
	frames := []int{0, 1, 2, 3, 7, 1000, 1<<32 - 1, 1 << 40, top / frame}
	for _, end := range []uint64{1 << 63, math.MaxUint64} {
		frames = append(frames, int(min(end/uint64(frame), top)))
	}
	for _, f := range frames {
		if f > top/max(count, 1) {
			continue
		}
		for n := -2; n <= 2*count+2; n++ {
			l = append(l, f*count+n)
		}
	}
	return l
}

// draw is a number from least to most.
func draw(r *rand.Rand, least, most int) int { return least + r.IntN(most-least+1) }

// drawn is a config that may be: the frames are small as often as not, so that ticks have many neighbours.
func drawn(r *rand.Rand) api.Config {
	c := api.Config{Partitions: draw(r, 1, 4), Frame: draw(r, 1, 64)}
	if r.IntN(2) == 0 {
		c.Frame = draw(r, 1, 12)
	}
	most, end := draw(r, 1, 8), 0
	for end < c.Frame && len(c.Windows) < most {
		// The windows are short as often as not, so that there are many.
		start := min(end+max(0, draw(r, -3, 4)), c.Frame-1)
		length := draw(r, 1, c.Frame-start)
		if r.IntN(4) > 0 {
			length = draw(r, 1, min(c.Frame-start, 6))
		}
		c.Windows = append(c.Windows, api.Window{Owner: draw(r, api.Router, c.Partitions-1), Start: start, Len: length})
		end = start + length
	}
	if c.Partitions > 1 {
		for range draw(r, 0, 6) {
			c.Channels = append(c.Channels, drawnChannel(r, c.Partitions))
		}
	}
	for range c.Partitions {
		c.Actions = append(c.Actions, draw(r, 0, 2))
	}
	return c
}

// drawnChannel is one that is right.
func drawnChannel(r *rand.Rand, partitions int) api.Channel {
	from := r.IntN(partitions)
	to := (from + draw(r, 1, partitions-1)) % partitions
	if r.IntN(3) == 0 {
		return sampling(from, to)
	}
	return queuing(from, to)
}
