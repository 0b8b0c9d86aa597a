package slots

import (
	"iter"
	"math"
	"slices"
	"testing"

	"stairwell/api"
	"stairwell/policy"
)

// of: a policy that may be, of so many places with these slots.
func of(t *testing.T, places int, slots ...int) policy.Policy {
	t.Helper()
	p := policy.Policy{Work: 1, Give: 1, Slots: slots}
	for at := range places {
		p.Places = append(p.Places, policy.Place{Name: string(rune('a' + at)), Label: api.Label{Set: uint32(at)}, Bytes: 1, Base: 1})
	}
	if code := p.Check(); code != api.OK {
		t.Fatal(code)
	}
	return p
}

// some: policies of unlike slots, from one slot to the most that may be.
func some(t *testing.T) []policy.Policy {
	t.Helper()
	var most []int
	for at := range api.MaxSlots {
		most = append(most, at*at%16)
	}
	copy(most, []int{0, 1, 2, 3, 4, 5, 6, 7, 8, 9, 10, 11, 12, 13, 14, 15})
	return []policy.Policy{
		of(t, 1, 0),
		of(t, 1, 0, 0, 0),
		of(t, 2, 1, 0),
		of(t, 2, 0, 1, 0),
		of(t, 3, 2, 2, 0, 1, 0, 2, 1),
		of(t, 16, most...),
	}
}

// ends: ticks at both ends of all that there are, and between.
func ends() []uint64 {
	var l []uint64
	for n := range uint64(70) {
		l = append(l, n, 1<<32-35+n, 1<<63-35+n, math.MaxUint64-n)
	}
	return l
}

// turn is a tick, and whose it is.
type turn struct {
	tick  uint64
	place int
}

// first: what a row of ticks begins with, as far as it goes.
func first(l iter.Seq2[uint64, int], most int) []turn {
	var some []turn
	if most == 0 {
		return nil
	}
	for tick, place := range l {
		some = append(some, turn{tick, place})
		if len(some) == most {
			break
		}
	}
	return some
}

// P6.1, and the document's examples.
func TestExamples(t *testing.T) {
	const a, b = 0, 1
	p := of(t, 2, a, b, a)
	for tick, want := range []int{a, b, a, a, b, a, a, b, a} {
		if got := At(p, uint64(tick)); got != want {
			t.Errorf("At %d: %d", tick, got)
		}
		if got := Round(p, uint64(tick)); got != uint64(tick/3) {
			t.Errorf("Round of %d: %d", tick, got)
		}
	}
	if tick, there := Next(p, b, 5); tick != 7 || !there {
		t.Errorf("Next: %d, %v", tick, there)
	}
	if Turns(p, a) != 2 || Turns(p, b) != 1 {
		t.Errorf("Turns: %d, %d", Turns(p, a), Turns(p, b))
	}
}

// P6.1: of ticks up to the last one.
func TestAtRound(t *testing.T) {
	for _, p := range some(t) {
		slots := uint64(len(p.Slots))
		for _, tick := range ends() {
			round := Round(p, tick)
			if round > tick/slots || tick-round*slots >= slots {
				t.Errorf("%d slots: Round(%d): %d", slots, tick, round)
			}
			if got, want := At(p, tick), p.Slots[tick-round*slots]; got != want {
				t.Errorf("%d slots: At(%d): %d, wanted %d", slots, tick, got, want)
			}
		}
	}
	// 2^64 - 1 is 3 times 6148914691236517205.
	p := of(t, 3, 0, 1, 2)
	if At(p, math.MaxUint64) != 0 || At(p, math.MaxUint64-1) != 2 || At(p, math.MaxUint64-2) != 1 {
		t.Error("the last ticks")
	}
	if Round(p, math.MaxUint64) != 6148914691236517205 || Round(p, math.MaxUint64-1) != 6148914691236517204 {
		t.Error("the last rounds")
	}
}

// P6.1: how many turns in a round; none of a place that isn't there.
func TestTurns(t *testing.T) {
	for _, p := range some(t) {
		all := 0
		for place := -3; place < 40; place++ {
			want := 0
			for tick := range uint64(len(p.Slots)) {
				if At(p, tick) == place {
					want++
				}
			}
			if got := Turns(p, place); got != want || (got == 0) != (place < 0 || place >= len(p.Places)) {
				t.Errorf("%v: Turns(%d): %d", p.Slots, place, got)
			}
			all += want
		}
		if all != len(p.Slots) {
			t.Errorf("%v: %d turns", p.Slots, all)
		}
	}
}

// P6.2: no tick ahead of the next one is the place's; where there is none up to the last tick, none is told.
func TestNext(t *testing.T) {
	for _, p := range some(t) {
		for _, tick := range ends() {
			for place := range p.Places {
				want, found := tick, false
				for n := range uint64(len(p.Slots)) {
					if want = tick + n; want < tick {
						break // there are no ticks any more
					}
					if found = At(p, want) == place; found {
						break
					}
				}
				if !found {
					want = 0
				}
				if got, there := Next(p, place, tick); got != want || there != found {
					t.Errorf("%v: Next(%d, %d): %d, %v, wanted %d, %v", p.Slots, place, tick, got, there, want, found)
				}
			}
		}
	}
}

// P6.2: the last turns ahead of 2^64.
func TestNextLast(t *testing.T) {
	p := of(t, 3, 0, 1, 2)
	for _, c := range []struct {
		place int
		tick  uint64
		want  uint64
		there bool
	}{
		{0, math.MaxUint64, math.MaxUint64, true},
		{0, math.MaxUint64 - 2, math.MaxUint64, true},
		{1, math.MaxUint64, 0, false},
		{1, math.MaxUint64 - 1, 0, false},
		{1, math.MaxUint64 - 2, math.MaxUint64 - 2, true},
		{2, math.MaxUint64, 0, false},
		{2, math.MaxUint64 - 1, math.MaxUint64 - 1, true},
		{2, math.MaxUint64 - 3, math.MaxUint64 - 1, true},
	} {
		if got, there := Next(p, c.place, c.tick); got != c.want || there != c.there {
			t.Errorf("Next(%d, %d): %d, %v", c.place, c.tick, got, there)
		}
	}
}

// P6.2: a place that isn't there has no next turn.
func TestNextOfNoPlace(t *testing.T) {
	for _, p := range some(t) {
		for _, place := range []int{-1, len(p.Places), 16, 1 << 40, math.MinInt, math.MaxInt} {
			for _, tick := range ends() {
				if got, there := Next(p, place, tick); got != 0 || there {
					t.Errorf("%v: Next(%d, %d): %d, %v", p.Slots, place, tick, got, there)
				}
			}
		}
	}
}

// P6.2: the ticks from one on, as many as are asked for, with those whose turns they are.
func TestAll(t *testing.T) {
	for _, p := range some(t) {
		for _, from := range ends() {
			for most := range 5 {
				asked := most * 20
				var want []turn
				for n := range uint64(asked) {
					if tick := from + n; tick >= from {
						want = append(want, turn{tick, At(p, tick)})
					}
				}
				if got := first(All(p, from), asked); !slices.Equal(got, want) {
					t.Errorf("%v: from %d: %v, wanted %v", p.Slots, from, got, want)
				}
			}
		}
	}
}

// P6.2: All ends by itself behind the last tick.
func TestAllEnds(t *testing.T) {
	p := of(t, 3, 0, 1, 2)
	want := []turn{{math.MaxUint64 - 3, 0}, {math.MaxUint64 - 2, 1}, {math.MaxUint64 - 1, 2}, {math.MaxUint64, 0}}
	for n := range want {
		if got := first(All(p, want[n].tick), 9); !slices.Equal(got, want[n:]) {
			t.Errorf("from %d: %v", want[n].tick, got)
		}
	}
}

// P6.2: no more ticks are told than are asked for, the last one among them.
func TestAllAsFarAsAsked(t *testing.T) {
	p := of(t, 2, 0, 1, 0)
	for _, from := range []uint64{0, 5, math.MaxUint64 - 9, math.MaxUint64 - 2} {
		for most := 1; most < 4; most++ {
			told := 0
			All(p, from)(func(uint64, int) bool {
				told++
				return told < most
			})
			if told != most {
				t.Errorf("from %d: %d ticks, asked for %d", from, told, most)
			}
		}
	}
}

// Of Memory: what is done to a policy later changes no tick, and an All can be gone through again, or by two at a time.
func TestAllIsKept(t *testing.T) {
	p := of(t, 2, 0, 1, 0)
	all, want := All(p, 4), first(All(p, 4), 9)
	p.Slots[0], p.Slots[1] = 1, 0
	if got := first(all, 9); !slices.Equal(got, want) {
		t.Errorf("%v, wanted %v", got, want)
	}
	var outer []turn
	for tick, place := range all {
		outer = append(outer, turn{tick, place})
		if got := first(all, 9); !slices.Equal(got, want) {
			t.Errorf("%v, wanted %v", got, want)
		}
		p.Slots = append(p.Slots[:0], 1, 1, 1)
		if len(outer) == 9 {
			break
		}
	}
	if !slices.Equal(outer, want) {
		t.Errorf("%v, wanted %v", outer, want)
	}
}

// Of Memory: what is asked leaves the policy as it was, spare room included.
func TestAskedPolicyStays(t *testing.T) {
	p := of(t, 2, 0, 1, 0)
	p.Slots = append(p.Slots, 7, 8)[:3]
	At(p, 9)
	Round(p, 9)
	Turns(p, 1)
	Next(p, 1, 9)
	first(All(p, 9), 9)
	if !slices.Equal(p.Slots[:5], []int{0, 1, 0, 7, 8}) {
		t.Errorf("%v", p.Slots[:5])
	}
}

// P6.3: in each round each place has its turn, at the same of its ticks; between two turns there are fewer ticks than slots.
func TestWhatFollows(t *testing.T) {
	for _, p := range some(t) {
		slots := uint64(len(p.Slots))
		last := math.MaxUint64/slots - 1
		for _, round := range []uint64{0, 1, 2, 1 << 40, last} {
			for n := range slots {
				tick := round*slots + n
				if At(p, tick) != At(p, n) || Round(p, tick) != round {
					t.Errorf("%v: %d isn't as %d", p.Slots, tick, n)
				}
			}
			for place := range p.Places {
				tick, there := Next(p, place, round*slots)
				if !there || Round(p, tick) != round {
					t.Fatalf("%v: no turn of %d in the round %d", p.Slots, place, round)
				}
				for round < last && Round(p, tick) == round {
					next, there := Next(p, place, tick+1)
					if !there || next-tick-1 >= slots {
						t.Fatalf("%v: of %d behind %d: %d, %v", p.Slots, place, tick, next, there)
					}
					tick = next
				}
			}
		}
	}
}

// P1: a policy without slots has no turns, and nothing panics.
func TestNoSlots(t *testing.T) {
	for _, tick := range ends() {
		At(policy.Policy{}, tick)
		Round(policy.Policy{}, tick)
		if _, there := Next(policy.Policy{}, 0, tick); there || first(All(policy.Policy{}, tick), 3) != nil {
			t.Errorf("%d", tick)
		}
	}
	if Turns(policy.Policy{}, 0) != 0 {
		t.Error("Turns")
	}
}
