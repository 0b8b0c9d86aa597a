package purge

import (
	"fmt"
	"math"
	"math/rand"
	"slices"
	"strings"
	"testing"

	"stairwell/api"
	"stairwell/broker"
	"stairwell/floor"
	"stairwell/method"
	"stairwell/policy"
	"stairwell/reply"
)

// comes: a test fails, if of a policy something comes from other places, or to others, than is told: of each place those to which it may, in order.
func comes(t *testing.T, p policy.Policy, want ...[]int) {
	t.Helper()
	plain := plainComes(p)
	for from := range p.Places {
		var l []int
		for to := range p.Places {
			if got := Comes(p, from, to); got != plain[[2]int{from, to}] {
				t.Errorf("from %d to %d: %v", from, to, got)
			}
			if Comes(p, from, to) {
				l = append(l, to)
			}
		}
		if want != nil && !slices.Equal(l, want[from]) {
			t.Errorf("from %d: %v, wanted %v", from, l, want[from])
		}
	}
}

// P32.1: by a flow, by a grant, through a third one, and from a place to itself.
func TestComes(t *testing.T) {
	comes(t, alone(t), []int{0})
	comes(t, ladder(t), []int{low, left, right, high}, []int{left, high}, []int{right, high}, []int{high})
	comes(t, ladder(t, "grant left right 2"), []int{low, left, right, high}, []int{left, right, high}, []int{right, high}, []int{high})
	comes(t, ladder(t, "grant left right 0"), []int{low, left, right, high}, []int{left, right, high}, []int{right, high}, []int{high})
	comes(t, ladder(t, "grant high right 1"), []int{low, left, right, high}, []int{left, right, high}, []int{right, high}, []int{right, high})
	comes(t, ladder(t, "grant high low 16"), []int{0, 1, 2, 3}, []int{0, 1, 2, 3}, []int{0, 1, 2, 3}, []int{0, 1, 2, 3})
	comes(t, ladder(t, "grant left low 1"), []int{0, 1, 2, 3}, []int{0, 1, 2, 3}, []int{right, high}, []int{high})
	comes(t, ladder(t, "grant left low 1", "grant right left 0"), []int{0, 1, 2, 3}, []int{0, 1, 2, 3}, []int{0, 1, 2, 3}, []int{high})
}

// P32.1: grants in a row, over places between; round about; and to a place from two.
func TestComesInARow(t *testing.T) {
	for places := 1; places <= 9; places++ {
		p := row(t, places)
		for from := range places {
			for to := range places {
				if Comes(p, from, to) != (from <= to) {
					t.Errorf("%d places, from %d to %d", places, from, to)
				}
			}
		}
		if comes(t, p); places < 2 || places > 8 {
			continue
		}
		p.Grants = append(p.Grants, policy.Grant{From: places - 1, To: 0})
		if code := p.Check(); code != api.OK {
			t.Fatal(code)
		}
		for from := range places {
			for to := range places {
				if !Comes(p, from, to) {
					t.Errorf("%d places round about, from %d to %d", places, from, to)
				}
			}
		}
		comes(t, p)
		slices.Reverse(p.Grants)
		comes(t, p)
		p.Grants = p.Grants[:places-1]
		comes(t, p)
		p.Grants = []policy.Grant{{From: places - 1, To: 0}}
		comes(t, p)
	}
}

// P32.1: false, where one isn't there, also where they are the same.
func TestComesFromNone(t *testing.T) {
	for _, p := range []policy.Policy{alone(t), ladder(t, "grant high low 1"), row(t, 9)} {
		there := len(p.Places)
		others := []int{math.MinInt, -1, there, there + 1, 16, 99, math.MaxInt}
		for _, a := range others {
			for _, b := range append(others, 0, there-1) {
				if Comes(p, a, b) || Comes(p, b, a) {
					t.Errorf("%d places: from %d to %d, or back", there, a, b)
				}
			}
		}
		if !Comes(p, there-1, there-1) || !Comes(p, 0, 0) {
			t.Error("not to itself")
		}
	}
}

// P32.1: policies by chance, of up to 16 places, held against the chapter's words.
func TestComesAny(t *testing.T) {
	some := 0
	for seed := range int64(400) {
		r := rand.New(rand.NewSource(seed))
		p := policy.Policy{Work: 1, Give: 1}
		for n := range 1 + r.Intn(16) {
			x := policy.Place{Name: fmt.Sprint("p", n), Label: api.Label{Level: uint8(r.Intn(3)), Set: uint32(r.Intn(64))}, Bytes: 1, Base: 1}
			if !slices.ContainsFunc(p.Places, func(y policy.Place) bool { return x.Label == y.Label }) {
				p.Places = append(p.Places, x)
				p.Slots = append(p.Slots, len(p.Places)-1)
			}
		}
		for range r.Intn(30) {
			q := p
			q.Grants = append(slices.Clone(p.Grants), policy.Grant{From: r.Intn(len(p.Places)), To: r.Intn(len(p.Places)), Budget: r.Intn(2)})
			if q.Check() == api.OK {
				p = q
			}
		}
		if code := p.Check(); code != api.OK {
			t.Fatal(code)
		}
		comes(t, p)
		for pair := range plainComes(p) {
			if from, to := pair[0], pair[1]; from != to && !p.Flows(from, to) && p.Grant(from, to) < 0 {
				some++
			}
		}
	}
	if some < 500 {
		t.Errorf("through a third one %d times", some)
	}
}

// everywhere: events of each kind, and of some that are none, at each place, and at some that aren't there.
func everywhere(p policy.Policy) []broker.Event {
	var l []broker.Event
	for _, kind := range []uint8{0, 1, 2, 3, 4, 5, 6, 255, 3} {
		for place := -2; place < len(p.Places)+2; place++ {
			l = append(l, broker.Event{Kind: kind, Place: place, Client: uint64(len(l)), Chunk: "x", A: 1, B: 2})
		}
	}
	return append(l, broker.Event{Kind: broker.Step, Place: math.MinInt}, broker.Event{Place: math.MaxInt})
}

// P32.1: Purge leaves the Steps, wherever they say that they are, and the events of any kind at places from which something may come; in order.
func TestPurge(t *testing.T) {
	for _, p := range []policy.Policy{alone(t), ladder(t), ladder(t, "grant left right 0"), ladder(t, "grant high low 3"), row(t, 5)} {
		l := everywhere(p)
		for place := range p.Places {
			got := Purge(p, place, l)
			if !slices.Equal(got, plainPurge(p, place, l)) {
				t.Errorf("place %d: %+v", place, got)
			}
			at := 0
			for _, e := range l {
				if e.Kind != broker.Step && !Comes(p, e.Place, place) {
					continue
				}
				if at >= len(got) || got[at] != e {
					t.Fatalf("place %d: %d is missing: %+v", place, at, e)
				}
				at++
			}
			if at != len(got) || !slices.Equal(Purge(p, place, got), got) {
				t.Errorf("place %d: %+v", place, got)
			}
		}
	}
	p := ladder(t)
	l := []broker.Event{{Place: high}, {Place: low, Kind: broker.Arm, A: 5}, {Kind: broker.Step, Place: high}, {Place: left, Kind: broker.Crash}, {Place: low, Kind: broker.Gone}, {Place: right, Kind: 9}}
	if got := Purge(p, low, l); !slices.Equal(got, []broker.Event{l[1], l[2], l[4]}) {
		t.Errorf("%+v", got)
	}
	if got := Purge(p, right, l); !slices.Equal(got, []broker.Event{l[1], l[2], l[4], l[5]}) {
		t.Errorf("%+v", got)
	}
	if got := Purge(p, high, l); !slices.Equal(got, l) {
		t.Errorf("%+v", got)
	}
}

// P32.1, and the document's example: of a policy with one place Purge leaves all events at it.
func TestPurgeAlone(t *testing.T) {
	p := alone(t)
	var l []broker.Event
	for kind := range 256 {
		l = append(l, broker.Event{Kind: uint8(kind), Client: 1, A: 1})
	}
	if got := Purge(p, 0, l); !slices.Equal(got, l) {
		t.Errorf("%+v", got)
	}
}

// P32.1: of a place that isn't there the Steps alone; of no events none.
func TestPurgeNone(t *testing.T) {
	p := ladder(t, "grant high low 1")
	for _, place := range []int{math.MinInt, -1, 4, 5, 16, math.MaxInt} {
		got := Purge(p, place, everywhere(p))
		if len(got) != 17 || slices.ContainsFunc(got, func(e broker.Event) bool { return e.Kind != broker.Step }) {
			t.Errorf("%d: %+v", place, got)
		}
	}
	for _, l := range [][]broker.Event{nil, {}, {{Place: high}}, {{Place: 4}, {Kind: broker.Crash, Place: -1}}} {
		if got := Purge(ladder(t), low, l); len(got) != 0 {
			t.Errorf("%+v", got)
		}
	}
}

// Memory: what is handed in stays as it was, spare room included, and isn't kept; an answer is new.
func TestPurgeIsNew(t *testing.T) {
	p := ladder(t)
	room := slices.Concat(steps(2), everywhere(p), steps(3))
	was := slices.Clone(room)
	for place := range p.Places {
		l := room[1 : len(room)-2 : len(room)-1]
		got := Purge(p, place, l)
		want := slices.Clone(got)
		if !slices.Equal(room, was) {
			t.Fatalf("place %d: what was handed in is changed", place)
		}
		for at := range got[:cap(got)] {
			got[:cap(got)][at] = broker.Event{Kind: 77}
		}
		if !slices.Equal(room, was) || !slices.Equal(Purge(p, place, l), want) {
			t.Fatalf("place %d: an answer shares", place)
		}
	}
}

// P32.2: what a place sees of its own events, of each Step, and of nothing else.
func TestWatch(t *testing.T) {
	p := ladder(t) // the slots: low, left, right, high
	l := slices.Concat(
		[]broker.Event{{Place: left}, {Place: low}, {Place: left, Kind: broker.Gone, Client: 9}, {Place: left}, {Place: left, Kind: 9}, {Place: high, Kind: 9}, {Place: 4}, {Place: -1, Kind: broker.Crash}},
		[]broker.Event{says(t, left, 1, hello), says(t, low, 1, hello), {Kind: broker.Step, Place: high}, {Kind: broker.Step, Place: left}},
		[]broker.Event{{Kind: broker.Gone, Place: left, Client: 1}, says(t, left, 2, opens)}, steps(4),
		[]broker.Event{{Place: left, Kind: broker.Arm, A: 5}, {Place: left, Kind: broker.Crash}, {Place: left}}, steps(4),
	)
	welcome := func(name string) []floor.Out {
		return []floor.Out{{Client: 1, Bytes: reply.Bytes([]reply.Reply{{Kind: reply.Welcome, Name: name}})}}
	}
	bye := []floor.Out{{Client: 2, Bytes: reply.Bytes([]reply.Reply{{Kind: reply.Bye, N: uint64(api.ErrOrder)}})}}
	first, both := []uint64{1}, []uint64{1, 2}
	watches(t, p, left, l,
		Sight{N: 1}, Sight{Err: api.ErrNone}, Sight{N: 2}, Sight{Err: api.ErrKind},
		Sight{}, Sight{Step: true, Clients: both, Ready: true}, Sight{Step: true, Out: welcome("left"), Clients: both, Ready: true},
		Sight{}, Sight{}, Sight{Step: true, Clients: both, Ready: true}, Sight{Step: true, Clients: both, Ready: true}, Sight{Step: true, Clients: both, Ready: true}, Sight{Step: true, Out: bye, Ready: true},
		Sight{}, Sight{}, Sight{Err: api.ErrPower}, Sight{Step: true}, Sight{Step: true}, Sight{Step: true}, Sight{Step: true, Ready: true},
	)
	of := func(n int, x Sight) []Sight { return slices.Repeat([]Sight{x}, n) }
	watches(t, p, low, l, slices.Concat([]Sight{{N: 1}, {}, {Step: true, Out: welcome("low"), Clients: first, Ready: true}}, of(9, Sight{Step: true, Clients: first, Ready: true}))...)
	watches(t, p, right, l, of(10, Sight{Step: true, Ready: true})...)
	watches(t, p, high, l, slices.Concat([]Sight{{Err: api.ErrKind}}, of(10, Sight{Step: true, Ready: true}))...)
}

// watches: a test fails, if a place doesn't see just this of events.
func watches(t *testing.T, p policy.Policy, place int, l []broker.Event, want ...Sight) {
	t.Helper()
	got, code := Watch(p, enough, place, l)
	if code != api.OK || !slices.EqualFunc(got, want, plainSame) {
		t.Errorf("place %d: %+v, %d, wanted %+v", place, got, code, want)
	}
	if plain := plainWatch(t, p, enough, place, l); !slices.EqualFunc(got, plain, plainSame) {
		t.Errorf("place %d: %+v, by the words %+v", place, got, plain)
	}
}

// plainSame: are two the same?
func plainSame(a, b Sight) bool { return plainText(a) == plainText(b) }

// plainText: all that a Sight tells.
func plainText(x Sight) string {
	s := fmt.Sprintln(x.Step, x.N, x.Err, x.Ready, len(x.Out), len(x.Clients))
	for _, o := range x.Out {
		s += fmt.Sprintf("%d %q\n", o.Client, o.Bytes)
	}
	for _, n := range x.Clients {
		s += fmt.Sprintln(n)
	}
	return s
}

// P32.2: New's error, ahead of ErrNone; with nothing beside it. Of no events nothing is seen.
func TestWatchErrors(t *testing.T) {
	p := ladder(t)
	wrong := ladder(t)
	wrong.Slots = wrong.Slots[:2]
	empty := policy.Policy{}
	for _, place := range []int{math.MinInt, -1, 0, 3, 4, 16, math.MaxInt} {
		for _, l := range [][]broker.Event{nil, {}, steps(3), {{Place: place}}} {
			for _, x := range []struct {
				p      policy.Policy
				blocks int
				want   api.Errno
			}{
				{p, enough, api.OK}, {p, 10, api.OK}, {p, 3, api.ErrRange}, {p, -1, api.ErrRange}, {p, 9, api.ErrSpace}, {wrong, enough, api.ErrEmpty}, {wrong, 0, api.ErrEmpty}, {empty, enough, api.ErrRange},
			} {
				want := x.want
				if want == api.OK && (place < 0 || place > 3) {
					want = api.ErrNone
				}
				seen, code := Watch(x.p, x.blocks, place, l)
				if code != want || code != api.OK && len(seen) != 0 || code == api.OK && len(seen) != len(l) {
					t.Errorf("place %d, %d blocks: %+v, %d, wanted %d", place, x.blocks, seen, code, want)
				}
			}
		}
	}
}

// P32.2: a Step at a place without a floor: of one whose floor can't be opened, as its disk has no room for a note more.
func TestWatchWithoutFloor(t *testing.T) {
	p := alone(t)
	var l []broker.Event
	for n := range uint64(7) {
		l = append(l, broker.Event{}, says(t, 0, n+1, hello), broker.Event{Kind: broker.Step})
	}
	l = append(l, broker.Event{Kind: broker.Crash}, broker.Event{Kind: broker.Step}, broker.Event{}, broker.Event{Kind: broker.Step})
	seen, code := Watch(p, 12, 0, l)
	if code != api.OK || len(seen) != len(l) {
		t.Fatalf("%+v, %d", seen, code)
	}
	for at, want := range []Sight{{}, {Step: true}, {Err: api.ErrPower}, {Step: true}} {
		if got := seen[21+at]; !plainSame(got, want) {
			t.Errorf("%d: %+v, wanted %+v", at, got, want)
		}
	}
	if plain := plainWatch(t, p, 12, 0, l); !slices.EqualFunc(seen, plain, plainSame) {
		t.Errorf("%+v, by the words %+v", seen, plain)
	}
}

// P32.2: are two the same? Each field, each element, the order, the length; lists that are empty, and that are none, too.
func TestSame(t *testing.T) {
	a, b := floor.Out{Client: 1, Bytes: "a"}, floor.Out{Client: 2, Bytes: "a"}
	all := []Sight{
		{}, {Step: true}, {N: 1}, {N: 2}, {Err: api.ErrNone}, {Err: api.ErrPower}, {Ready: true}, {Step: true, Ready: true},
		{Out: []floor.Out{a}}, {Out: []floor.Out{b}}, {Out: []floor.Out{{Client: 1, Bytes: "b"}}}, {Out: []floor.Out{{}}}, {Out: []floor.Out{a, b}}, {Out: []floor.Out{b, a}}, {Out: []floor.Out{a, a}},
		{Clients: []uint64{1}}, {Clients: []uint64{2}}, {Clients: []uint64{0}}, {Clients: []uint64{1, 2}}, {Clients: []uint64{2, 1}}, {Clients: []uint64{1, 1}},
		{Step: true, N: 1, Err: api.ErrNone, Out: []floor.Out{a}, Clients: []uint64{1}, Ready: true},
	}
	var lists [][]Sight
	lists = append(lists, nil)
	for i, x := range all {
		lists = append(lists, []Sight{x}, []Sight{x, {}})
		for j, y := range all {
			if i != j {
				lists = append(lists, []Sight{x, y, {N: 77}})
			}
		}
	}
	for i, x := range lists {
		for j, y := range lists {
			if Same(x, y) != (i == j) {
				t.Fatalf("%+v and %+v: %v", x, y, i != j)
			}
		}
		if !Same(x, copied(x)) || !Same(copied(x), x) {
			t.Errorf("%+v isn't the same as its copy", x)
		}
	}
	if !Same(nil, []Sight{}) || !Same([]Sight{}, nil) || Same(nil, []Sight{{}}) || Same([]Sight{{}}, []Sight{}) {
		t.Error("none and empty")
	}
}

// copied: the same, of which lists without elements are none where they were empty, and the other way round.
func copied(l []Sight) []Sight {
	var all []Sight
	for _, x := range l {
		if len(x.Out) == 0 && x.Out == nil {
			x.Out = []floor.Out{}
		} else {
			x.Out = append([]floor.Out(nil), x.Out...)
		}
		if len(x.Clients) == 0 && x.Clients == nil {
			x.Clients = []uint64{}
		} else {
			x.Clients = append([]uint64(nil), x.Clients...)
		}
		all = append(all, x)
	}
	return all
}

// Memory: what is handed to Watch stays as it was; what it answers shares nothing.
func TestWatchIsNew(t *testing.T) {
	p := ladder(t, "grant high low 2")
	l := rowOf(t, rand.New(rand.NewSource(1)), p, 60)
	was, printed := slices.Clone(l), fmt.Sprint(p)
	first, _ := Watch(p, enough, high, l)
	second, _ := Watch(p, enough, high, l)
	want := plainWatch(t, p, enough, high, l)
	for at := range first {
		own := plainText(second[at])
		rest := plainText(Sight{Clients: slices.Concat(clientsOf(first[:at]), clientsOf(first[at+1:]))})
		for i := range first[at].Out[:cap(first[at].Out)] {
			first[at].Out[:cap(first[at].Out)][i] = floor.Out{Client: 99, Bytes: "over"}
		}
		for i := range first[at].Clients[:cap(first[at].Clients)] {
			first[at].Clients[:cap(first[at].Clients)][i] = 99
		}
		if plainText(second[at]) != own || plainText(Sight{Clients: slices.Concat(clientsOf(first[:at]), clientsOf(first[at+1:]))}) != rest {
			t.Fatalf("%d: shared", at)
		}
	}
	if !slices.EqualFunc(second, want, plainSame) || !slices.Equal(l, was) || fmt.Sprint(p) != printed {
		t.Error("written over")
	}
}

// clientsOf: the clients of all.
func clientsOf(l []Sight) []uint64 {
	var all []uint64
	for _, x := range l {
		all = append(all, x.Clients...)
	}
	return all
}

// policies: those of long rows.
func policies(t *testing.T) map[string]policy.Policy {
	return map[string]policy.Policy{
		"alone":        alone(t),
		"ladder":       ladder(t),
		"across":       ladder(t, "grant left right 2"),
		"no budget":    ladder(t, "grant right left 0"),
		"down":         ladder(t, "grant high low 1"),
		"down at left": ladder(t, "grant left low 2", "grant high left 1"),
		"row":          row(t, 5),
		"two sides": policyOf(t, "label low 0 4000 1", "label a 1:1 4000 1", "label aa 2:1:5 4000 1", "label b 1:2 4000 1", "label bb 2:2:6 4000 1",
			"grant aa a 1", "grant bb low 2"),
	}
}

// P32.3, P2: a place sees of the purged events what it sees of all, wherever the power goes; P32.2: and that is what the chapter's words say.
func TestNothingElse(t *testing.T) {
	purged, told, dark, fails := 0, 0, 0, 0
	for name, p := range policies(t) {
		for seed := range int64(12) {
			r := rand.New(rand.NewSource(seed))
			l := rowOf(t, r, p, 300)
			blocks := one(r, 60, 120, enough)
			for place := range p.Places {
				less := Purge(p, place, l)
				all, code := Watch(p, blocks, place, l)
				some, e := Watch(p, blocks, place, less)
				if code != api.OK || e != api.OK || !Same(all, some) || !slices.EqualFunc(all, some, plainSame) {
					t.Fatalf("%s, seed %d: place %d sees what happens elsewhere: %d, %d", name, seed, place, code, e)
				}
				if !slices.EqualFunc(all, plainWatch(t, p, blocks, place, l), plainSame) {
					t.Fatalf("%s, seed %d: place %d sees something else", name, seed, place)
				}
				purged += len(l) - len(less)
				for _, x := range all {
					switch {
					case len(x.Out) > 0:
						told++
					case x.Step && !x.Ready:
						dark++
					case x.Err != api.OK:
						fails++
					}
				}
			}
		}
	}
	if purged < 10000 || told < 8000 || dark < 1000 || fails < 1000 {
		t.Errorf("purged %d, told %d, without a floor %d, errors %d", purged, told, dark, fails)
	}
}

// P32.3: and what comes is seen: by a flow, by a grant, and by a grant through a third place, so that none of these may be purged.
func TestSomethingComes(t *testing.T) {
	for name, x := range map[string]struct {
		p        policy.Policy
		from, to int
		between  []method.Method // what is done at places between
		said     []method.Method
	}{
		"a flow":          {ladder(t), low, high, nil, []method.Method{fanout, lifts("high"), puts("a", "x")}},
		"a grant":         {row(t, 2), 0, 1, nil, []method.Method{releases("a", "p1"), puts("a", "x")}},
		"through a third": {row(t, 3), 0, 2, []method.Method{releases("a", "p2")}, []method.Method{releases("a", "p1"), puts("a", "x")}},
	} {
		taker := connects(t, x.to, fanout, queue, binds, takes)
		if x.between != nil {
			taker = append(taker, connects(t, 1, x.between...)...)
		}
		ahead := append(taker, steps(4*len(x.p.Slots))...)
		without := slices.Concat(ahead, steps(9*len(x.p.Slots)))
		with := slices.Concat(ahead, connects(t, x.from, x.said...), steps(9*len(x.p.Slots)))
		a, _ := Watch(x.p, enough, x.to, with)
		b, _ := Watch(x.p, enough, x.to, without)
		sent := func(l []Sight) bool {
			return slices.ContainsFunc(l, func(y Sight) bool {
				return slices.ContainsFunc(y.Out, func(o floor.Out) bool { return strings.Contains(o.Bytes, "\x00\x01x") })
			})
		}
		if Same(a, b) || !sent(a) || sent(b) || !slices.Equal(Purge(x.p, x.to, with), with) {
			t.Errorf("%s: nothing comes", name)
		}
		if less := Purge(x.p, x.from, with); len(less) == len(with) {
			t.Errorf("%s: nothing is purged", name)
		}
	}
}
