package gate_test

import (
	"slices"
	"testing"

	"empennage/api"
	"empennage/gate"
	"empennage/lane"
)

// spoil turns all that can be turned of the messages: what stands behind their words, too.
func spoil(list []api.Message) {
	for i := range list {
		words := list[i].Words[:cap(list[i].Words)]
		for j := range words {
			words[j] = -700 - j
		}
		list[i] = api.Message{Lane: -710, Stamp: -711, Late: -712, Seq: -713}
	}
	list = list[:cap(list)]
	for i := range list {
		list[i].Seq = -720
	}
}

// copied is the messages, which share no memory with these.
func copied(list []api.Message) []api.Message {
	list = slices.Clone(list)
	for i := range list {
		list[i] = lane.Clone(list[i])
	}
	return list
}

func TestOfferNeitherChangesNorKeepsItsWords(t *testing.T) {
	for count := 1; count <= 4; count++ {
		memory := []int{11, 12, 13, 14, 15, 16, 17}
		was := slices.Clone(memory)
		k := channel()
		k.Words, k.Depth = 4, 3
		x := made(t, k)
		for range 3 {
			x.offers(call{lane: 1, words: memory[1 : 1+count]}, api.NoError)
		}
		for _, refused := range []call{{mode: 1}, {lane: 3}, {lane: 1}, {lane: -1}} {
			refused.words = memory[1 : 1+count]
			if a := x.makes(refused); a.e == api.NoError {
				t.Errorf("%+v: %+v", refused, a)
			}
		}
		if !slices.Equal(memory, was) {
			t.Errorf("what was handed in: %v, not %v", memory, was)
		}
		// The record has its own words: the gate's are as they were.
		for i := range memory {
			memory[i] = -i
		}
		alike(t, x.g, x.r, 0)
		x.makes(call{kind: aTake})
		clear(memory)
		x.makes(call{kind: aSweep, now: 9})
		x.makes(call{kind: aFlush})
	}
}

func TestWhatOfferToldMayBeTurned(t *testing.T) {
	for count := 1; count <= 4; count++ {
		k := channel()
		k.Words = 4
		x := made(t, k)
		words := slices.Repeat([]int{5}, count)
		var list []api.Message
		for range 2 {
			m, e := x.g.Offer(api.Normal, 0, words, 3, 0)
			if e != api.NoError {
				t.Fatal(e)
			}
			x.r.Offer(api.Normal, 0, words, 3, 0)
			list = append(list, m)
		}
		spoil(list[:1:1])
		if want := slices.Repeat([]int{5}, count); !slices.Equal(words, want) || !slices.Equal(list[1].Words, want) {
			t.Errorf("with what was told turn the words that were handed in, %v, or those of the other one, %v", words, list[1].Words)
		}
		alike(t, x.g, x.r, 0)
		spoil(list)
		alike(t, x.g, x.r, 0)
		x.makes(call{kind: aTake})
		x.makes(call{kind: aFlush})
	}
}

// lists are what tells messages, each by a gate with six of them.
func lists() map[string]func(g *gate.Gate) []api.Message {
	return map[string]func(g *gate.Gate) []api.Message{
		"All":   (*gate.Gate).All,
		"Flush": (*gate.Gate).Flush,
		"Sweep": func(g *gate.Gate) []api.Message { return g.Sweep(top) },
		"Take": func(g *gate.Gate) []api.Message {
			var l []api.Message
			for range 6 {
				m, _ := g.Take()
				l = append(l, m)
			}
			return l
		},
	}
}

func TestMessagesThatAreToldShareNoMemory(t *testing.T) {
	for what, tell := range lists() {
		for turned := range 6 {
			x := made(t, channel())
			for in := range 3 {
				x.fills(in, 2, 0)
			}
			all := x.g.All()
			list := tell(x.g)
			want := copied(list)
			if !lane.Same(all, want) {
				t.Fatalf("%s: %+v, not %+v", what, list, all)
			}
			spoil(list[turned : turned+1 : turned+1])
			if !lane.Same(list[:turned], want[:turned]) || !lane.Same(list[turned+1:], want[turned+1:]) || !lane.Same(all, want) {
				t.Errorf("%s: with message %d turn others: %+v, %+v", what, turned, list, all)
			}
		}
	}
}

func TestGateStaysAsItIsWhereWhatItToldIsTurned(t *testing.T) {
	for k, row := range drawnRows(71) {
		g, r := gate.New(k), newRecord(k)
		for i, c := range row[:40] {
			a := asTold(t, g, r, c)
			spoil(a.list)
			spoil(g.All())
			// The words that were handed in are turned, too.
			spoil([]api.Message{{Words: c.words}})
			alike(t, g, r, r.round)
			if t.Failed() {
				t.Fatalf("%+v: the row %+v", k, row[:i+1])
			}
		}
	}
}
