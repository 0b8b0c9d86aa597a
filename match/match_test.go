package match

import (
	"math"
	"slices"
	"strconv"
	"strings"
	"testing"

	"stairwell/api"
	"stairwell/words"
)

// pair: a pair, whether it may be or not.
func pair(key string, kind uint8, num int64, text string) api.Pair {
	return api.Pair{Key: key, Kind: kind, Num: num, Text: text}
}

// keyed: so many pairs of unlike keys.
func keyed(n int) []api.Pair {
	var l []api.Pair
	for at := range n {
		l = append(l, pair("k"+strconv.Itoa(at), 0, int64(at), ""))
	}
	return l
}

// keys: keys that may be.
func keys() []string {
	return []string{"", "a", "b", "c", "a.a", "a.b", "b.a", "a.b.c", "a.b.c.d", "x", "a-b", "ab", strings.Repeat("k", 64)}
}

// patterns: patterns that may be, and aren't keys.
func patterns() []string {
	return []string{"*", "#", "a.*", "*.a", "a.#", "#.a", "a.*.#", "#.b.#", "*.*", strings.Repeat("#.", 31) + "#"}
}

// heads: heads that may be.
func heads() [][]api.Pair {
	a, b, c := pair("a", 0, 1, ""), pair("b", 1, 0, "x"), pair("c", 2, 1, "")
	return [][]api.Pair{
		nil, {}, {a}, {b}, {c}, {a, b}, {b, a}, {a, c}, {a, b, c}, {c, b, a},
		{pair("a", 0, 2, "")}, {pair("a", 0, -1, "")}, {pair("a", 1, 0, "")}, {pair("a", 2, 1, "")}, {pair("a", 2, 0, "")},
		{pair("b", 1, 0, "y")}, {pair("b", 1, 0, "")}, {pair("x", 0, 1, "")}, {a, pair("b", 1, 0, "y")}, {pair("a", 0, 2, ""), b},
		{pair("n", 0, math.MinInt64, "")}, {pair("n", 0, math.MaxInt64, "")}, {pair("t", 1, 0, strings.Repeat("\xff", 64))},
		keyed(7), keyed(8),
	}
}

// P10.1: the sorts.
func TestSorts(t *testing.T) {
	if got := []int{Direct, Fanout, Topic, Heads}; !slices.Equal(got, []int{0, 1, 2, 3}) {
		t.Errorf("%d", got)
	}
}

// checked: what Check says, of rules with All and without.
func checked(t *testing.T, r Rule, want api.Errno) {
	t.Helper()
	for _, all := range []bool{false, true} {
		r.All = all
		if got := r.Check(); got != want {
			t.Errorf("%#v: %d, wanted %d", r, got, want)
		}
	}
}

// P10.1: rules that may be, of all sorts; a direct one's key isn't a pattern, all others' may be.
func TestCheckRight(t *testing.T) {
	for sort := range uint8(4) {
		for _, key := range keys() {
			for _, want := range heads() {
				checked(t, Rule{Sort: sort, Key: key, Want: want}, api.OK)
			}
		}
		for _, key := range patterns() {
			for _, want := range heads() {
				code := api.OK
				if sort == 0 {
					code = api.ErrForm
				}
				checked(t, Rule{Sort: sort, Key: key, Want: want}, code)
			}
		}
	}
}

// P10.1: another sort, whatever else the rule has.
func TestCheckSort(t *testing.T) {
	for sort := 4; sort < 256; sort++ {
		checked(t, Rule{Sort: uint8(sort)}, api.ErrKind)
		checked(t, Rule{Sort: uint8(sort), Key: "a.b", Want: keyed(8)}, api.ErrKind)
		checked(t, Rule{Sort: uint8(sort), Key: strings.Repeat("k", 65), Want: keyed(9)}, api.ErrKind)
		checked(t, Rule{Sort: uint8(sort), Key: "A", Want: []api.Pair{{}}}, api.ErrKind)
	}
}

// P10.1: a key that may not be, of each sort, ahead of a Want that may not be.
func TestCheckKey(t *testing.T) {
	for _, c := range []struct {
		key  string
		want api.Errno
	}{
		{strings.Repeat("k", 65), api.ErrLong}, {strings.Repeat("K", 65), api.ErrLong}, {strings.Repeat("#.", 32) + "#", api.ErrLong},
		{"A", api.ErrForm}, {".", api.ErrForm}, {"a.", api.ErrForm}, {".a", api.ErrForm}, {"a..b", api.ErrForm},
		{"a b", api.ErrForm}, {"**", api.ErrForm}, {"a*", api.ErrForm}, {"#a", api.ErrForm}, {"a.*#", api.ErrForm}, {"\x00", api.ErrForm},
	} {
		for sort := range uint8(4) {
			for _, want := range [][]api.Pair{nil, keyed(8), keyed(9), {{}}, {pair("a", 3, 0, "")}} {
				checked(t, Rule{Sort: sort, Key: c.key, Want: want}, c.want)
			}
		}
	}
}

// P10.1: a Want that may not be, of each sort, with what layer 9 says of it.
func TestCheckWant(t *testing.T) {
	for _, c := range []struct {
		head []api.Pair
		want api.Errno
	}{
		{keyed(9), api.ErrMany},
		{make([]api.Pair, 9), api.ErrMany},
		{[]api.Pair{{}}, api.ErrEmpty},
		{[]api.Pair{pair("seventeen-bytes-a", 0, 0, "")}, api.ErrLong},
		{[]api.Pair{pair("A", 0, 0, "")}, api.ErrForm},
		{[]api.Pair{pair("a.b", 0, 0, "")}, api.ErrForm},
		{[]api.Pair{pair("*", 0, 0, "")}, api.ErrForm},
		{[]api.Pair{pair("a", 3, 0, "")}, api.ErrKind},
		{[]api.Pair{pair("a", 1, 0, strings.Repeat("t", 65))}, api.ErrLong},
		{[]api.Pair{pair("a", 2, 2, "")}, api.ErrRange},
		{[]api.Pair{pair("a", 0, 0, "t")}, api.ErrForm},
		{[]api.Pair{pair("a", 1, 1, "t")}, api.ErrForm},
		{[]api.Pair{pair("a", 0, 0, ""), pair("a", 1, 0, "t")}, api.ErrThere},
		{[]api.Pair{pair("a", 0, 0, ""), pair("b", 2, -1, ""), pair("a", 1, 0, "t")}, api.ErrRange},
	} {
		for sort := range uint8(4) {
			for _, key := range keys() {
				checked(t, Rule{Sort: sort, Key: key, Want: c.head}, c.want)
			}
		}
		checked(t, Rule{Sort: Topic, Key: "a.#", Want: c.head}, c.want)
		checked(t, Rule{Sort: Direct, Key: "a.#", Want: c.head}, api.ErrForm)
	}
}

// goes: by that rule such a message goes, or it stays.
func goes(t *testing.T, r Rule, key string, h []api.Pair, want bool) {
	t.Helper()
	if got := r.Goes(key, h); got != want {
		t.Errorf("%#v, of %q, %#v: %v", r, key, h, got)
	}
}

// P10.1, P10.2: by a direct one those of its key go, and by a fanout each, whatever else they want.
func TestGoesDirectFanout(t *testing.T) {
	for _, key := range keys() {
		for _, other := range keys() {
			for n, h := range heads() {
				want := heads()[(n*7+3)%len(heads())]
				goes(t, Rule{Sort: Direct, Key: key, Want: want, All: n%2 == 0}, other, h, key == other)
				goes(t, Rule{Sort: Fanout, Key: key, Want: want, All: n%2 == 0}, other, h, true)
			}
		}
		for _, pattern := range patterns() {
			goes(t, Rule{Sort: Fanout, Key: pattern}, key, nil, true)
		}
	}
}

// P10.1, and the document's example: by a topic those go whose key matches, with stars and hashes.
func TestGoesTopic(t *testing.T) {
	for _, c := range []struct{ pattern, goes, stays string }{
		{"a.#", "a a.b a.b.c", "- b b.a"},
		{"a.*.#", "a.b a.b.c.d", "- a b.a"},
		{"#", "- a a.b", ""},
		{"*", "a b", "- a.b"},
		{"*.b", "a.b b.b", "- b a b.a a.b.c"},
		{"#.b.#", "b a.b b.a a.b.c", "- a a.a"},
	} {
		r := Rule{Sort: Topic, Key: c.pattern}
		for _, key := range strings.Fields(c.goes) {
			goes(t, r, strings.TrimPrefix(key, "-"), nil, true)
		}
		for _, key := range strings.Fields(c.stays) {
			goes(t, r, strings.TrimPrefix(key, "-"), nil, false)
		}
	}
	for _, pattern := range append(patterns(), keys()...) {
		for _, key := range keys() {
			for n, h := range heads() {
				want := heads()[(n*5+2)%len(heads())]
				goes(t, Rule{Sort: Topic, Key: pattern, Want: want, All: n%2 == 0}, key, h, words.Matches(pattern, key))
			}
		}
	}
}

// P10.2: by a topic without stars and hashes what a direct one has.
func TestTopicAsDirect(t *testing.T) {
	for _, own := range keys() {
		for _, key := range keys() {
			for _, h := range heads() {
				direct, topic := Rule{Sort: Direct, Key: own}, Rule{Sort: Topic, Key: own}
				if direct.Goes(key, h) != topic.Goes(key, h) || topic.Goes(key, h) != (own == key) {
					t.Errorf("%q, of %q: %v", own, key, topic.Goes(key, h))
				}
			}
		}
	}
}

// P10.1: by heads those go that have what is wanted: with All each pair, else at least one.
func TestGoesHeads(t *testing.T) {
	a, b, c := pair("a", 0, 1, ""), pair("b", 1, 0, "x"), pair("c", 2, 1, "")
	for _, one := range []struct {
		want, head []api.Pair
		all, any   bool
	}{
		{[]api.Pair{a}, []api.Pair{a}, true, true},
		{[]api.Pair{b}, []api.Pair{b}, true, true},
		{[]api.Pair{c}, []api.Pair{c}, true, true},
		{[]api.Pair{a}, []api.Pair{c, b, a}, true, true},
		{[]api.Pair{b}, []api.Pair{c, b, a}, true, true},
		{[]api.Pair{a, b}, []api.Pair{c, b, a}, true, true},
		{[]api.Pair{a, b, c}, []api.Pair{c, b, a}, true, true},
		{[]api.Pair{a, b}, []api.Pair{a}, false, true},
		{[]api.Pair{a, b}, []api.Pair{b}, false, true},
		{[]api.Pair{a, b, c}, []api.Pair{a, b}, false, true},
		{[]api.Pair{a, b, c}, []api.Pair{c, a}, false, true},
		{[]api.Pair{a, b, c}, []api.Pair{c, b}, false, true},
		{[]api.Pair{a}, []api.Pair{b, c}, false, false},
		{[]api.Pair{a, b}, []api.Pair{c}, false, false},
		{[]api.Pair{a}, nil, false, false},
		{[]api.Pair{a, b, c}, []api.Pair{}, false, false},
		{[]api.Pair{a, b}, []api.Pair{pair("a", 0, 2, ""), b}, false, true},
		{[]api.Pair{a, b}, []api.Pair{a, pair("b", 1, 0, "y")}, false, true},
		{keyed(8), keyed(8), true, true},
		{keyed(8), keyed(7), false, true},
		{keyed(7), keyed(8), true, true},
	} {
		for _, key := range keys() {
			goes(t, Rule{Sort: Heads, Want: one.want, All: true}, key, one.head, one.all)
			goes(t, Rule{Sort: Heads, Want: one.want}, key, one.head, one.any)
			goes(t, Rule{Sort: Heads, Key: "a.#", Want: one.want, All: true}, key, one.head, one.all)
			goes(t, Rule{Sort: Heads, Key: "a", Want: one.want}, key, one.head, one.any)
		}
	}
}

// P10.1: a pair is there, if key, Kind, Num and Text are the same: no other one is.
func TestGoesSamePair(t *testing.T) {
	some := []api.Pair{
		pair("a", 0, 0, ""), pair("a", 0, 1, ""), pair("a", 0, 2, ""), pair("a", 0, -1, ""), pair("a", 0, 1<<32+1, ""),
		pair("a", 0, math.MaxInt64, ""), pair("a", 0, math.MinInt64, ""),
		pair("a", 1, 0, ""), pair("a", 1, 0, "a"), pair("a", 1, 0, "A"), pair("a", 1, 0, "ab"), pair("a", 1, 0, "\x00"),
		pair("a", 2, 0, ""), pair("a", 2, 1, ""),
		pair("b", 0, 0, ""), pair("b", 0, 1, ""), pair("b", 1, 0, "a"), pair("b", 2, 1, ""), pair("aa", 0, 1, ""),
	}
	other := pair("other", 0, 5, "")
	for x, wanted := range some {
		for y, has := range some {
			for _, all := range []bool{false, true} {
				goes(t, Rule{Sort: Heads, Want: []api.Pair{wanted}, All: all}, "k", []api.Pair{has}, x == y)
				goes(t, Rule{Sort: Heads, Want: []api.Pair{wanted}, All: all}, "k", []api.Pair{other, has}, x == y)
				goes(t, Rule{Sort: Heads, Want: []api.Pair{other, wanted}, All: all}, "k", []api.Pair{has, other}, x == y || !all)
			}
		}
	}
}

// P10.1: all heads against all, held against the document's words.
func TestGoesHeadsAll(t *testing.T) {
	for _, want := range heads() {
		for _, h := range heads() {
			there := 0
			for _, wanted := range want {
				for _, has := range h {
					if wanted.Key == has.Key && wanted.Kind == has.Kind && wanted.Num == has.Num && wanted.Text == has.Text {
						there++
					}
				}
			}
			goes(t, Rule{Sort: Heads, Want: want, All: true}, "a", h, there == len(want))
			goes(t, Rule{Sort: Heads, Want: want}, "a", h, there > 0)
		}
	}
}

// P10.2: by heads with All and no Want each goes, without All none.
func TestGoesNoWant(t *testing.T) {
	for _, none := range [][]api.Pair{nil, {}} {
		for _, h := range heads() {
			for _, key := range keys() {
				goes(t, Rule{Sort: Heads, Want: none, All: true}, key, h, true)
				goes(t, Rule{Sort: Heads, Want: none}, key, h, false)
			}
		}
	}
}

// P1: of a rule that may not be Goes ends, too.
func TestGoesOther(t *testing.T) {
	for sort := 4; sort < 256; sort++ {
		goes(t, Rule{Sort: uint8(sort), Key: "a", All: true}, "a", nil, false)
	}
}

// P10.1: two are the same, if all is the same.
func TestSame(t *testing.T) {
	a, b := pair("a", 0, 1, ""), pair("b", 1, 0, "x")
	unlike := []Rule{
		{}, {Sort: Fanout}, {Sort: Topic}, {Sort: Heads}, {Sort: 4}, {Key: "a"}, {Key: "b"}, {Key: "a.b"}, {All: true},
		{Sort: Topic, Key: "a"}, {Sort: Topic, Key: "a", All: true}, {Sort: Heads, All: true},
		{Want: []api.Pair{a}}, {Want: []api.Pair{b}}, {Want: []api.Pair{a, b}}, {Want: []api.Pair{b, a}}, {Want: []api.Pair{a, a}},
		{Want: []api.Pair{pair("a", 0, 2, "")}}, {Want: []api.Pair{pair("a", 1, 1, "")}}, {Want: []api.Pair{pair("a", 0, 1, "x")}},
		{Sort: Heads, Key: "a", Want: []api.Pair{a, b}, All: true}, {Sort: Heads, Key: "a", Want: []api.Pair{a, b}},
		{Sort: Heads, Key: "b", Want: []api.Pair{a, b}, All: true}, {Sort: Heads, Key: "a", Want: []api.Pair{a}, All: true},
	}
	for x := range unlike {
		for y := range unlike {
			other := unlike[y]
			other.Want = slices.Clone(other.Want)
			if got := Same(unlike[x], other); got != (x == y) {
				t.Errorf("rules %d and %d: %v", x, y, got)
			}
		}
	}
	if !Same(Rule{}, Rule{Want: []api.Pair{}}) || !Same(Rule{Want: []api.Pair{}}, Rule{}) {
		t.Error("rules without a Want")
	}
}

// Memory: what is handed in isn't changed, spare room included.
func TestMemory(t *testing.T) {
	want := append(append(make([]api.Pair, 0, 9), keyed(8)...), pair("spare", 0, 0, ""))
	head := append(append(make([]api.Pair, 0, 9), keyed(8)...), pair("spare", 0, 0, ""))
	slices.Reverse(head)
	wantWas, headWas := slices.Clone(want), slices.Clone(head)
	for sort := range uint8(5) {
		for _, all := range []bool{false, true} {
			r := Rule{Sort: sort, Key: "a.b", Want: want[:4], All: all}
			r.Check()
			r.Goes("a.b", head[:6])
			Same(r, Rule{Sort: sort, Key: "a.b", Want: head[:4], All: all})
		}
	}
	if !slices.Equal(want, wantWas) || !slices.Equal(head, headWas) {
		t.Errorf("%#v, %#v", want, head)
	}
}
