package purge

import (
	"fmt"
	"math/rand"
	"slices"
	"strings"
	"testing"

	"stairwell/api"
	"stairwell/broker"
	"stairwell/floor"
	"stairwell/frame"
	"stairwell/method"
	"stairwell/policy"
)

// The places of a ladder: from low it flows to all others, from left and right to high.
const (
	low = iota
	left
	right
	high
)

const enough = 400 // blocks for any store of these tests

// policyOf: the policy of a text's lines, behind work and give, with a slot for each place.
func policyOf(t *testing.T, lines ...string) policy.Policy {
	t.Helper()
	var slots []string
	for _, one := range lines {
		if words := strings.Fields(one); words[0] == "label" {
			slots = append(slots, "slot "+words[1])
		}
	}
	at := slices.IndexFunc(lines, func(one string) bool { return strings.HasPrefix(one, "grant") })
	if at < 0 {
		at = len(lines)
	}
	all := slices.Concat([]string{"work 4", "give 2"}, lines[:at], slots, lines[at:])
	p, line, code := policy.Parse(strings.Join(all, "\n"))
	if code != api.OK {
		t.Fatalf("line %d: %d", line, code)
	}
	return p
}

// ladder: a policy of four places, with these grants.
func ladder(t *testing.T, grants ...string) policy.Policy {
	t.Helper()
	return policyOf(t, append([]string{"label low 0 4000 1", "label left 1:0 4000 100", "label right 1:1 4000 200", "label high 2:0:1 4000 9"}, grants...)...)
}

// row: a policy of so many places of which none stands under another one, with grants from each to the next one.
func row(t *testing.T, places int) policy.Policy {
	t.Helper()
	var lines, grants []string
	for n := range places {
		lines = append(lines, fmt.Sprintf("label p%d 1:%d 4000 1", n, n))
		if n > 0 {
			grants = append(grants, fmt.Sprintf("grant p%d p%d 2", n-1, n))
		}
	}
	return policyOf(t, append(lines, grants...)...)
}

// alone: a policy of one place.
func alone(t *testing.T) policy.Policy {
	t.Helper()
	return policyOf(t, "label low 0 4000 1")
}

// plainComes: from which places something may come to which, as the document's words have it: told again and again, till nothing more is told.
func plainComes(p policy.Policy) map[[2]int]bool {
	comes := map[[2]int]bool{}
	for at := range p.Places {
		comes[[2]int{at, at}] = true
	}
	for more := true; more; {
		more = false
		for from := range p.Places {
			for to := range p.Places {
				if comes[[2]int{from, to}] {
					continue
				}
				told := p.Flows(from, to) || p.Grant(from, to) >= 0
				for third := range p.Places {
					told = told || comes[[2]int{from, third}] && comes[[2]int{third, to}]
				}
				if told {
					comes[[2]int{from, to}], more = true, true
				}
			}
		}
	}
	return comes
}

// plainPurge: the Steps, and the events at places from which something may come.
func plainPurge(p policy.Policy, place int, l []broker.Event) []broker.Event {
	comes := plainComes(p)
	return slices.DeleteFunc(slices.Clone(l), func(e broker.Event) bool { return e.Kind != 3 && !comes[[2]int{e.Place, place}] })
}

// plainWatch: events as a place sees them, of a policy that may be, and a place of it.
func plainWatch(t *testing.T, p policy.Policy, blocks, place int, l []broker.Event) []Sight {
	t.Helper()
	b, code := broker.New(p, blocks)
	if code != api.OK {
		t.Fatal(code)
	}
	var seen []Sight
	for _, e := range l {
		var x Sight
		if x.N, x.Err = b.Do(e); e.Kind == 3 {
			x = Sight{Step: true, Out: []floor.Out{}, Ready: b.Ready(place)}
			x.Out = append(x.Out, b.Out(place)...)
			x.Clients = append(x.Clients, b.Clients(place)...)
		}
		if e.Kind == 3 || e.Place == place {
			seen = append(seen, x)
		}
	}
	return seen
}

// bytesOf: the bytes of methods' frames.
func bytesOf(t *testing.T, l ...method.Method) string {
	t.Helper()
	var all strings.Builder
	for _, m := range l {
		f, code := m.Frame()
		if code != api.OK {
			t.Fatalf("%+v: %d", m, code)
		}
		s, _ := frame.Bytes(f)
		all.WriteString(s)
	}
	return all.String()
}

// hello and others: methods, on channel 1.
var (
	hello  = method.Method{Kind: method.Hello, N: 1}
	opens  = method.Method{Channel: 1, Kind: method.Open}
	fanout = method.Method{Channel: 1, Kind: method.MakeShop, Name: "a", N: 1}
	queue  = method.Method{Channel: 1, Kind: method.MakeQueue, Name: "q", N: 9}
	binds  = method.Method{Channel: 1, Kind: method.Bind, Name: "a", Other: "q"}
	takes  = method.Method{Channel: 1, Kind: method.Take, Name: "q", N: 7}
	gets   = method.Method{Channel: 1, Kind: method.Get, Name: "q"}
)

// lifts: a Lift from the exchange a.
func lifts(place string) method.Method {
	return method.Method{Channel: 1, Kind: method.Lift, Name: "a", Other: place}
}

// releases: an exchange that releases to a place.
func releases(name, place string) method.Method {
	return method.Method{Channel: 1, Kind: method.MakeShop, Name: name, N: 4, Other: place}
}

// puts: a Put to an exchange.
func puts(shop, body string) method.Method {
	return method.Method{Channel: 1, Kind: method.Put, Name: shop, Body: body}
}

// says: the event by which a client's methods come.
func says(t *testing.T, place int, client uint64, l ...method.Method) broker.Event {
	t.Helper()
	return broker.Event{Kind: broker.Send, Place: place, Client: client, Chunk: bytesOf(t, l...)}
}

// steps: so many Steps.
func steps(n int) []broker.Event { return slices.Repeat([]broker.Event{{Kind: broker.Step}}, n) }

// connects: the events by which a client of a place begins, and these methods come; it is the first one.
func connects(t *testing.T, place int, l ...method.Method) []broker.Event {
	t.Helper()
	return []broker.Event{{Kind: broker.Connect, Place: place}, says(t, place, 1, append([]method.Method{hello, opens}, l...)...)}
}

// laid: the events by which each place has a client, the exchange a, the queue q to which that leads, and a taker; by which what is put to a
// goes up, wherever it may, and by which exchanges release wherever they may.
func laid(t *testing.T, p policy.Policy) []broker.Event {
	t.Helper()
	var l []broker.Event
	for place := range p.Places {
		said := []method.Method{fanout, queue, binds, takes}
		for to, x := range p.Places {
			if p.Flows(place, to) {
				said = append(said, lifts(x.Name))
			}
			if p.Grant(place, to) >= 0 {
				said = append(said, releases("r-"+x.Name, x.Name))
			}
		}
		l = append(l, connects(t, place, said...)...)
	}
	return append(l, steps(4*len(p.Slots))...)
}

// one: one of some, by chance.
func one[T any](r *rand.Rand, l ...T) T { return l[r.Intn(len(l))] }

// thrown: events by chance, at a place of a policy.
func thrown(t *testing.T, r *rand.Rand, p policy.Policy) []broker.Event {
	t.Helper()
	place := r.Intn(len(p.Places))
	e := broker.Event{Place: place, Client: one[uint64](r, 1, 1, 1, 2)}
	switch n := r.Intn(200); {
	case n < 6:
		return append([]broker.Event{{Kind: broker.Connect, Place: place}}, says(t, place, uint64(1+r.Intn(3)), hello, opens, takes))
	case n < 9:
		e.Kind = broker.Gone
	case n < 13:
		e.Kind, e.A, e.B = broker.Arm, r.Intn(4), one(r, -1, 0, 40, 64, 200, 1000)
	case n < 16:
		return []broker.Event{{Kind: broker.Crash, Place: place, A: one(r, -1, 0, 3, 1000)}}
	case n < 18:
		e.Kind = uint8(r.Intn(256))
	case n < 20:
		e.Place = one(r, -1, len(p.Places), 99)
	case n < 21:
		e.Kind, e.Chunk = broker.Send, "\xff\xff\xff\xff"
	default:
		var l []method.Method
		for range 1 + r.Intn(3) {
			l = append(l, asked(r, p))
		}
		return []broker.Event{says(t, place, e.Client, l...)}
	}
	return []broker.Event{e}
}

// asked: a method by chance.
func asked(r *rand.Rand, p policy.Policy) method.Method {
	to := one(r, p.Places...).Name
	if r.Intn(3) > 0 {
		return puts(one(r, "a", "a", "r-"+to), strings.Repeat("b", r.Intn(60)))
	}
	return one(r, fanout, queue, binds, takes, gets, lifts(to), releases("r-"+to, to), method.Method{Channel: 1, Kind: method.Settle, N: uint64(r.Intn(12)), Yes: true},
		method.Method{Channel: 1, Kind: method.Bind, Name: "r-" + to, Other: "q"}, method.Method{Channel: 1, Kind: method.MakeShop, Name: "r-" + to, N: 1})
}

// rowOf: a long row of events by chance, at all places. Where the power of a place goes, clients begin there again.
func rowOf(t *testing.T, r *rand.Rand, p policy.Policy, times int) []broker.Event {
	t.Helper()
	l := laid(t, p)
	for range times {
		more := thrown(t, r, p)
		l = append(l, more...)
		if r.Intn(4) > 0 {
			l = append(l, broker.Event{Kind: broker.Step, Place: one(r, -1, 0, 3, 99), Client: 3, Chunk: "x"})
		}
		if e := more[0]; e.Kind == broker.Crash {
			l = append(l, steps(len(p.Slots))...)
			l = append(l, connects(t, e.Place, takes)...)
		}
	}
	return append(l, steps(len(p.Slots))...)
}
