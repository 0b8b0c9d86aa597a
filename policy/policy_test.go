package policy

import (
	"reflect"
	"slices"
	"strconv"
	"strings"
	"testing"

	"stairwell/api"
)

// label: of a level, and compartments.
func label(level uint8, compartments ...int) api.Label {
	a := api.Label{Level: level}
	for _, c := range compartments {
		a.Set |= 1 << c
	}
	return a
}

// The places of right.
const (
	low = iota
	mid
	side
	high
)

// right: a policy that may be, a new one each time. What is at low flows to all others, what is at mid to high.
func right() Policy {
	return Policy{
		Work: 4, Give: 2,
		Places: []Place{
			{"low", label(0), 500, 1},
			{"mid", label(1, 0), 600, 7},
			{"side", label(1, 5), 0, 1 << 40},
			{"high", label(2, 0, 1), 65536, 9},
		},
		Slots:  []int{low, mid, low, side, high},
		Grants: []Grant{{high, low, 3}, {mid, side, 0}, {side, mid, 16}},
	}
}

// many: a policy of so many places, none of which stands under another one.
func many(places int) Policy {
	p := Policy{Work: 1, Give: 1}
	for at := range places {
		p.Places = append(p.Places, Place{"p" + strconv.Itoa(at), label(3, at), 10, 1})
		p.Slots = append(p.Slots, at)
	}
	return p
}

// P5.1: policies that may be, up to all limits.
func TestCheckRight(t *testing.T) {
	for name, change := range map[string]func(p *Policy){
		"as it is":         func(p *Policy) {},
		"least Work, Give": func(p *Policy) { p.Work, p.Give = 1, 1 },
		"most Work, Give":  func(p *Policy) { p.Work, p.Give = 16, 16 },
		"least Bytes":      func(p *Policy) { p.Places[0].Bytes = 0 },
		"most Bytes":       func(p *Policy) { p.Places[0].Bytes = 65536 },
		"most Base":        func(p *Policy) { p.Places[0].Base = 1<<64 - 1 },
		"same Bytes, Base": func(p *Policy) { p.Places[1].Bytes, p.Places[1].Base = 500, 1 },
		"a name's length":  func(p *Policy) { p.Places[0].Name = "abcdefgh-ijkl_09" },
		"highest label":    func(p *Policy) { p.Places[3].Label = api.Label{Level: 15, Set: ^uint32(0)} },
		"most slots":       func(p *Policy) { p.Slots = append(p.Slots, make([]int, 27)...) },
		"no grants":        func(p *Policy) { p.Grants = nil },
		"empty grants":     func(p *Policy) { p.Grants = []Grant{} },
		"least Budget":     func(p *Policy) { p.Grants[0].Budget = 0 },
		"most Budget":      func(p *Policy) { p.Grants[0].Budget = 16 },
		"same From":        func(p *Policy) { p.Grants[1] = Grant{high, mid, 3} },
		"same To":          func(p *Policy) { p.Grants[1] = Grant{side, low, 3} },
		"one place": func(p *Policy) {
			p.Places, p.Slots, p.Grants = p.Places[:1], p.Slots[:1], nil
		},
		"most places": func(p *Policy) { *p = many(16) },
		"most grants": func(p *Policy) {
			*p = many(9)
			for at := range 8 {
				p.Grants = append(p.Grants, Grant{8, at, 1})
			}
		},
	} {
		p := right()
		change(&p)
		if got := p.Check(); got != api.OK {
			t.Errorf("%s: %d", name, got)
		}
	}
}

// wrong is what makes a policy that may be into one that may not, and what Check answers then.
type wrong struct {
	name   string
	change func(p *Policy)
	want   api.Errno
}

var wrongs = []wrong{
	{"Work 0", func(p *Policy) { p.Work = 0 }, api.ErrRange},
	{"Work below 0", func(p *Policy) { p.Work = -1 }, api.ErrRange},
	{"Work 17", func(p *Policy) { p.Work = 17 }, api.ErrRange},
	{"Give 0", func(p *Policy) { p.Give = 0 }, api.ErrRange},
	{"Give below 0", func(p *Policy) { p.Give = -4 }, api.ErrRange},
	{"Give 17", func(p *Policy) { p.Give = 17 }, api.ErrRange},

	{"no places", func(p *Policy) { p.Places = nil }, api.ErrEmpty},
	{"17 places", func(p *Policy) { *p = many(17) }, api.ErrMany},
	{"no name", func(p *Policy) { p.Places[0].Name = "" }, api.ErrEmpty},
	{"long name", func(p *Policy) { p.Places[1].Name = strings.Repeat("n", 17) }, api.ErrLong},
	{"long name of other bytes", func(p *Policy) { p.Places[1].Name = strings.Repeat("N", 17) }, api.ErrLong},
	{"name of other bytes", func(p *Policy) { p.Places[3].Name = "High" }, api.ErrForm},
	{"two words as a name", func(p *Policy) { p.Places[3].Name = "hi gh" }, api.ErrForm},
	{"level 16", func(p *Policy) { p.Places[3].Label.Level = 16 }, api.ErrRange},
	{"level 255", func(p *Policy) { p.Places[3].Label.Level = 255 }, api.ErrRange},
	{"Bytes below 0", func(p *Policy) { p.Places[0].Bytes = -1 }, api.ErrRange},
	{"Bytes too great", func(p *Policy) { p.Places[2].Bytes = 65537 }, api.ErrRange},
	{"Base 0", func(p *Policy) { p.Places[3].Base = 0 }, api.ErrRange},
	{"name twice", func(p *Policy) { p.Places[1].Name = "low" }, api.ErrThere},
	{"last name twice", func(p *Policy) { p.Places[3].Name = "side" }, api.ErrThere},
	{"label twice", func(p *Policy) { p.Places[1].Label = label(0) }, api.ErrThere},
	{"last label twice", func(p *Policy) { p.Places[3].Label = label(1, 0) }, api.ErrThere},

	{"no slots", func(p *Policy) { p.Slots = nil }, api.ErrEmpty},
	{"33 slots", func(p *Policy) { p.Slots = append(p.Slots, make([]int, 28)...) }, api.ErrMany},
	{"slot of no place", func(p *Policy) { p.Slots[2] = 4 }, api.ErrNone},
	{"slot below 0", func(p *Policy) { p.Slots[2] = -1 }, api.ErrNone},

	{"9 grants", func(p *Policy) {
		*p = many(10)
		for at := range 9 {
			p.Grants = append(p.Grants, Grant{9, at, 1})
		}
	}, api.ErrMany},
	{"From of no place", func(p *Policy) { p.Grants[0].From = 4 }, api.ErrNone},
	{"From below 0", func(p *Policy) { p.Grants[2].From = -1 }, api.ErrNone},
	{"To of no place", func(p *Policy) { p.Grants[0].To = 4 }, api.ErrNone},
	{"To below 0", func(p *Policy) { p.Grants[2].To = -1 }, api.ErrNone},
	{"grant of what flows", func(p *Policy) { p.Grants[0] = Grant{low, high, 3} }, api.ErrFlow},
	{"last grant of what flows", func(p *Policy) { p.Grants[2] = Grant{mid, high, 3} }, api.ErrFlow},
	{"grant of a place to itself", func(p *Policy) { p.Grants[1] = Grant{side, side, 3} }, api.ErrFlow},
	{"Budget below 0", func(p *Policy) { p.Grants[1].Budget = -1 }, api.ErrRange},
	{"Budget 17", func(p *Policy) { p.Grants[1].Budget = 17 }, api.ErrRange},
	{"grant twice", func(p *Policy) { p.Grants[2] = p.Grants[0] }, api.ErrThere},
	{"grant twice, of unlike budgets", func(p *Policy) { p.Grants[1] = Grant{high, low, 4} }, api.ErrThere},

	{"first place without a slot", func(p *Policy) { p.Slots = []int{mid, side, high} }, api.ErrEmpty},
	{"last place without a slot", func(p *Policy) { p.Slots = []int{low, mid, side} }, api.ErrEmpty},
}

// P5.1: each error alone.
func TestCheckWrong(t *testing.T) {
	for _, w := range wrongs {
		p := right()
		w.change(&p)
		if got := p.Check(); got != w.want {
			t.Errorf("%s: %d, wanted %d", w.name, got, w.want)
		}
	}
}

// P5.1: the zero policy may not be, and its Work is told first.
func TestCheckZero(t *testing.T) {
	if got := (Policy{}).Check(); got != api.ErrRange {
		t.Errorf("%d", got)
	}
}

// P5.1: which of two errors comes first: of a policy in which nearly all is wrong the first error is mended, again and
// again, till nothing is wrong any more.
func TestCheckOrder(t *testing.T) {
	p := many(17)
	p.Work, p.Give = 0, 17
	p.Places[0] = Place{"", api.Label{Level: 16}, -1, 0}
	p.Places[1] = Place{"Mid", api.Label{Level: 16}, 500, 7}
	p.Places[2] = Place{"low", label(0), 65537, 1}
	p.Places[3] = Place{"high", label(0), 1, 0}
	p.Slots = make([]int, 33)
	p.Slots[0], p.Slots[32] = 4, -1
	p.Grants = slices.Repeat([]Grant{{-1, 4, -1}, {low, 9, 17}, {low, mid, 17}, {high, low, -1}}, 3)
	mends := []struct {
		want api.Errno
		mend func()
	}{
		{api.ErrRange, func() { p.Work = 4 }},
		{api.ErrRange, func() { p.Give = 2 }},
		{api.ErrMany, func() { p.Places = p.Places[:4] }},
		{api.ErrEmpty, func() { p.Places[0].Name = strings.Repeat("N", 17) }},
		{api.ErrLong, func() { p.Places[0].Name = "Low" }},
		{api.ErrForm, func() { p.Places[0].Name = "low" }},
		{api.ErrRange, func() { p.Places[0].Label = label(0) }},
		{api.ErrRange, func() { p.Places[0].Bytes = 500 }},
		{api.ErrRange, func() { p.Places[0].Base = 1 }},
		{api.ErrForm, func() { p.Places[1].Name = "low" }},
		{api.ErrRange, func() { p.Places[1].Label = label(1, 0) }},
		{api.ErrThere, func() { p.Places[1].Name = "mid" }},
		{api.ErrRange, func() { p.Places[2].Bytes = 0 }},
		{api.ErrThere, func() { p.Places[2].Name = "side" }},
		{api.ErrThere, func() { p.Places[2].Label = label(1, 5) }},
		{api.ErrRange, func() { p.Places[3].Base = 9 }},
		{api.ErrThere, func() { p.Places[3].Label = label(2, 0, 1) }},
		{api.ErrMany, func() { p.Slots = p.Slots[:3] }},
		{api.ErrNone, func() { p.Slots = nil }},
		{api.ErrEmpty, func() { p.Slots = []int{low} }},
		{api.ErrMany, func() { p.Grants = p.Grants[:5] }},
		{api.ErrNone, func() { p.Grants[0].From = low }},
		{api.ErrNone, func() { p.Grants[0].To = high }},
		{api.ErrFlow, func() { p.Grants[0] = Grant{high, low, -1} }},
		{api.ErrRange, func() { p.Grants[0].Budget = 16 }},
		{api.ErrNone, func() { p.Grants[1].To = low }},
		{api.ErrFlow, func() { p.Grants[1] = Grant{high, low, 17} }},
		{api.ErrRange, func() { p.Grants[1].Budget = 16 }},
		{api.ErrThere, func() { p.Grants[1].From = side }},
		{api.ErrFlow, func() { p.Grants[2] = Grant{mid, low, 17} }},
		{api.ErrRange, func() { p.Grants[2].Budget = 0 }},
		{api.ErrRange, func() { p.Grants[3].Budget = 1 }},
		{api.ErrThere, func() { p.Grants[3].To = mid }},
		{api.ErrNone, func() { p.Grants = p.Grants[:4] }},
		{api.ErrEmpty, func() { p.Slots = append(p.Slots, high, side) }},
		{api.ErrEmpty, func() { p.Slots = append(p.Slots, mid) }},
	}
	for at, m := range mends {
		if got := p.Check(); got != m.want {
			t.Fatalf("ahead of mend %d: %d, wanted %d", at, got, m.want)
		}
		m.mend()
	}
	if got := p.Check(); got != api.OK {
		t.Errorf("mended: %d", got)
	}
}

// P5.1: the first place of a name, in any policy.
func TestFind(t *testing.T) {
	p := right()
	p.Places = append(p.Places, Place{Name: "mid"}, Place{Name: "A name"}, Place{}, Place{})
	for name, want := range map[string]int{
		"low": low, "mid": mid, "side": side, "high": high, "A name": 5, "": 6,
		"hi": -1, "high ": -1, "High": -1, "lowmid": -1, "\x00": -1,
	} {
		if got := p.Find(name); got != want {
			t.Errorf("Find(%q): %d, wanted %d", name, got, want)
		}
	}
	if (Policy{}).Find("") != -1 || (Policy{}).Find("low") != -1 {
		t.Error("of no places")
	}
}

// P5.2: things flow to places above, and to no others.
func TestFlows(t *testing.T) {
	p := right()
	for from := -2; from < 7; from++ {
		for to := -2; to < 7; to++ {
			want := from == low && mid <= to && to <= high || from == mid && to == high
			if got := p.Flows(from, to); got != want {
				t.Errorf("Flows(%d, %d): %v", from, to, got)
			}
		}
	}
}

// P5.4: Flows is an order, of which no place stands ahead of itself; a grant doesn't make things flow.
func TestFlowsIsAnOrder(t *testing.T) {
	p := Policy{Work: 1, Give: 1}
	for at := range 16 {
		p.Places = append(p.Places, Place{"p" + strconv.Itoa(at), label(uint8(at % 3)), 10, 1})
		p.Places[at].Label.Set = uint32(at / 2)
		p.Slots = append(p.Slots, at)
	}
	if code := p.Check(); code != api.OK {
		t.Fatal(code)
	}
	flows := 0
	for a := range 16 {
		if p.Flows(a, a) {
			t.Errorf("%d flows to itself", a)
		}
		for b := range 16 {
			if p.Flows(a, b) {
				flows++
			}
			if p.Flows(a, b) && p.Flows(b, a) {
				t.Errorf("%d and %d flow to each other", a, b)
			}
			for c := range 16 {
				if p.Flows(a, b) && p.Flows(b, c) && !p.Flows(a, c) {
					t.Errorf("%d, %d, %d", a, b, c)
				}
			}
		}
	}
	if flows == 0 {
		t.Error("nothing flows")
	}
	p = right()
	if p.Flows(high, low) || p.Flows(mid, side) || p.Flows(side, mid) {
		t.Error("what is granted flows")
	}
}

// P5.2: the number of a grant, by both its places.
func TestGrant(t *testing.T) {
	p := right()
	for from := -2; from < 7; from++ {
		for to := -2; to < 7; to++ {
			want := slices.IndexFunc(p.Grants, func(g Grant) bool { return g.From == from && g.To == to })
			if got := p.Grant(from, to); got != want {
				t.Errorf("Grant(%d, %d): %d, wanted %d", from, to, got, want)
			}
		}
	}
	if p.Grant(high, low) != 0 || p.Grant(mid, side) != 1 || p.Grant(side, mid) != 2 || p.Grant(low, high) != -1 {
		t.Error("not the grants' numbers")
	}
	if many(2).Grant(0, 1) != -1 || many(2).Grant(0, 0) != -1 {
		t.Error("without grants")
	}
}

// Of Memory: what is asked of a policy leaves it as it was, spare room included.
func TestAskedPolicyStays(t *testing.T) {
	p := right()
	p.Places = append(p.Places, Place{"spare", label(9), 1, 1})[:4]
	p.Slots = append(p.Slots, 2, 3)[:5]
	p.Grants = append(p.Grants, Grant{9, 9, 9})[:3]
	p.Check()
	p.Find("mid")
	p.Flows(low, mid)
	p.Grant(high, low)
	Print(p)
	if !reflect.DeepEqual(p, right()) {
		t.Errorf("%v", p)
	}
	if p.Places[:5][4].Name != "spare" || p.Slots[:7][5] != 2 || p.Slots[:7][6] != 3 || p.Grants[:4][3] != (Grant{9, 9, 9}) {
		t.Error("spare room")
	}
}

// P1: whatever a policy is, no call panics.
func TestAnyPolicy(t *testing.T) {
	for _, p := range []Policy{
		{},
		{Places: []Place{{}, {}}, Slots: []int{-1, 5}, Grants: []Grant{{-1, -1, -1}, {5, 0, 99}}},
		{Work: -1 << 63, Give: 1<<63 - 1, Slots: []int{1<<63 - 1}},
	} {
		for from := -1; from < 4; from++ {
			for to := -1; to < 4; to++ {
				p.Flows(from, to)
				p.Grant(from, to)
			}
		}
		p.Find("low")
		if s, code := Print(p); s != "" || code == api.OK || code != p.Check() {
			t.Errorf("%v: %q, %d", p, s, code)
		}
	}
}
