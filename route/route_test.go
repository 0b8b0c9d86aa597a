package route

import (
	"reflect"
	"slices"
	"strconv"
	"strings"
	"testing"

	"stairwell/api"
	"stairwell/match"
)

const (
	name16 = "sixteen-bytes-it"
	name17 = "seventeen-bytes-a"
)

// pair: a pair, whether it may be or not.
func pair(key string, kind uint8, num int64, text string) api.Pair {
	return api.Pair{Key: key, Kind: kind, Num: num, Text: text}
}

// keyed: so many pairs of unlike keys.
func keyed(n int) []api.Pair {
	var l []api.Pair
	for at := range n {
		l = append(l, pair("k"+strconv.Itoa(at), 0, int64(at), ""))
	}
	return l
}

// made: a book of these exchanges and bindings, all of which may be.
func made(t *testing.T, parts ...any) Book {
	t.Helper()
	var b Book
	for _, one := range parts {
		code := api.OK
		switch x := one.(type) {
		case Shop:
			b, code = b.Make(x)
		case Bind:
			b, code = b.Bind(x)
		}
		if code != api.OK {
			t.Fatalf("%#v: %d", one, code)
		}
	}
	return b
}

// shops: so many fanouts.
func shops(n int) []any {
	var l []any
	for at := range n {
		l = append(l, Shop{Name: "s" + strconv.Itoa(at), Sort: match.Fanout})
	}
	return l
}

// binds: so many bindings of such an exchange, to unlike queues.
func binds(shop string, n int) []any {
	var l []any
	for at := range n {
		l = append(l, Bind{Shop: shop, To: shop + "-" + strconv.Itoa(at)})
	}
	return l
}

// sameBinds: are the bindings the same, in the same order, a Want without pairs being nil or empty?
func sameBinds(a, b []Bind) bool {
	return slices.EqualFunc(a, b, func(x, y Bind) bool {
		if len(x.Want) == 0 && len(y.Want) == 0 {
			x.Want, y.Want = nil, nil
		}
		return reflect.DeepEqual(x, y)
	})
}

// tells: the book has just these, in that order.
func tells(t *testing.T, b Book, parts ...any) {
	t.Helper()
	var x []Shop
	var y []Bind
	for _, one := range parts {
		switch part := one.(type) {
		case Shop:
			x = append(x, part)
		case Bind:
			y = append(y, part)
		}
	}
	if got := b.Shops(); !slices.Equal(got, x) {
		t.Errorf("exchanges %#v, wanted %#v", got, x)
	}
	if got := b.Binds(); !sameBinds(got, y) {
		t.Errorf("bindings %#v, wanted %#v", got, y)
	}
	for _, one := range x {
		if got, there := b.Shop(one.Name); got != one || !there {
			t.Errorf("%q: %#v, %v", one.Name, got, there)
		}
	}
	if !Same(b, made(t, parts...)) {
		t.Errorf("not the same as one of %#v", parts)
	}
}

// lacks: the book has no exchange of that name.
func lacks(t *testing.T, b Book, name string) {
	t.Helper()
	if got, there := b.Shop(name); got != (Shop{}) || there {
		t.Errorf("%q: %#v, %v", name, got, there)
	}
}

// P14.1: the sort of exchanges that release.
func TestRelease(t *testing.T) {
	if Release != 4 {
		t.Errorf("Release is %d", Release)
	}
}

// P14.1: a book has what was made, in order; the zero one nothing.
func TestMakeRight(t *testing.T) {
	tells(t, Book{})
	lacks(t, Book{}, "a")
	lacks(t, Book{}, "")
	l := []any{
		Shop{"b", 0, ""}, Shop{"a", 1, ""}, Shop{name16, 2, ""}, Shop{"-", 3, ""}, Shop{"_", 4, "low"}, Shop{"0", 4, "0"},
		Shop{"a-b_0", 4, name16}, Shop{"z", 4, "z"},
	}
	for n := range len(l) + 1 {
		tells(t, made(t, l[:n]...), l[:n]...)
		for _, other := range l[n:] {
			lacks(t, made(t, l[:n]...), other.(Shop).Name)
		}
		lacks(t, made(t, l[:n]...), "A")
		lacks(t, made(t, l[:n]...), "")
		lacks(t, made(t, l[:n]...), "low")
	}
}

// refusesShop: the exchange isn't made, with that error, and the book is as it was.
func refusesShop(t *testing.T, x Shop, want api.Errno, parts ...any) {
	t.Helper()
	b, code := made(t, parts...).Make(x)
	if code != want {
		t.Errorf("%#v: %d, wanted %d", x, code, want)
	}
	tells(t, b, parts...)
}

// P14.1: each error of an exchange, and which of several comes first; whether there is room or not, and where another one
// of that name is there.
func TestMakeWrong(t *testing.T) {
	const some = "some"
	for _, c := range []struct {
		x    Shop
		want api.Errno
	}{
		{Shop{"", 5, "A"}, api.ErrEmpty}, {Shop{"", 4, ""}, api.ErrEmpty}, {Shop{"", 0, ""}, api.ErrEmpty},
		{Shop{name17, 5, "A"}, api.ErrLong}, {Shop{strings.Repeat("A", 17), 0, ""}, api.ErrLong},
		{Shop{"A", 5, "A"}, api.ErrForm}, {Shop{"a.b", 0, ""}, api.ErrForm}, {Shop{"*", 1, ""}, api.ErrForm}, {Shop{"a ", 4, "low"}, api.ErrForm},
		{Shop{some, 5, ""}, api.ErrKind}, {Shop{some, 5, "low"}, api.ErrKind}, {Shop{some, 5, "A"}, api.ErrKind}, {Shop{some, 255, name17}, api.ErrKind},
		{Shop{some, 4, ""}, api.ErrEmpty}, {Shop{some, 4, name17}, api.ErrLong}, {Shop{some, 4, "A"}, api.ErrForm}, {Shop{some, 4, "a.b"}, api.ErrForm},
		{Shop{some, 0, "a"}, api.ErrForm}, {Shop{some, 1, "a"}, api.ErrForm}, {Shop{some, 2, "a"}, api.ErrForm}, {Shop{some, 3, "a"}, api.ErrForm},
		{Shop{some, 0, name17}, api.ErrForm}, {Shop{some, 3, "A"}, api.ErrForm},
	} {
		refusesShop(t, c.x, c.want)
		refusesShop(t, c.x, c.want, shops(3)...)
		refusesShop(t, c.x, c.want, shops(8)...)
		for _, other := range []Shop{{some, 1, ""}, {some, 4, "other"}} {
			refusesShop(t, c.x, c.want, other)
			refusesShop(t, c.x, c.want, append(shops(7), other)...)
			refusesShop(t, c.x, c.want, append([]any{other}, shops(7)...)...)
		}
	}
}

// P14.1: each Sort, with a To that is empty, and one that isn't.
func TestMakeSorts(t *testing.T) {
	for sort := range 256 {
		empty, to := Shop{"a", uint8(sort), ""}, Shop{"a", uint8(sort), "low"}
		switch {
		case sort < 4:
			tells(t, made(t, empty), empty)
			refusesShop(t, to, api.ErrForm)
		case sort == 4:
			refusesShop(t, empty, api.ErrEmpty)
			tells(t, made(t, to), to)
		default:
			refusesShop(t, empty, api.ErrKind)
			refusesShop(t, to, api.ErrKind)
		}
	}
}

// P14.1: the very same exchange again: the same book, also where there are 8; another one of that name is there.
func TestMakeAgain(t *testing.T) {
	for _, n := range []int{0, 3, 7} {
		for _, x := range []Shop{{"x", 0, ""}, {"x", 1, ""}, {"x", 2, ""}, {"x", 3, ""}, {"x", 4, "low"}, {"x", 4, "high"}} {
			ahead := append([]any{x}, shops(n)...)
			behind := append(shops(n), x)
			refusesShop(t, x, api.OK, ahead...)
			refusesShop(t, x, api.OK, behind...)
			for _, other := range []Shop{{"x", 0, ""}, {"x", 1, ""}, {"x", 2, ""}, {"x", 3, ""}, {"x", 4, "low"}, {"x", 4, "high"}} {
				if other != x {
					refusesShop(t, other, api.ErrThere, ahead...)
					refusesShop(t, other, api.ErrThere, behind...)
				}
			}
		}
	}
}

// P14.1: 8 exchanges have room, a ninth hasn't, till one is dropped.
func TestMakeFull(t *testing.T) {
	for n := range 9 {
		x := Shop{"new", 4, "low"}
		if n == 8 {
			refusesShop(t, x, api.ErrFull, shops(n)...)
			refusesShop(t, Shop{"new", 0, ""}, api.ErrFull, shops(n)...)
			continue
		}
		tells(t, made(t, append(shops(n), x)...), append(shops(n), x)...)
	}
	b, _ := made(t, shops(8)...).Drop("s3")
	b, code := b.Make(Shop{"new", 0, ""})
	if code != api.OK {
		t.Errorf("behind a Drop: %d", code)
	}
	tells(t, b, append(slices.Delete(shops(8), 3, 4), Shop{"new", 0, ""})...)
}

// P14.1: what is dropped is gone, with all bindings from it, and with no other one; what isn't there isn't dropped.
func TestDrop(t *testing.T) {
	a, b, c, r := Shop{"a", 1, ""}, Shop{"b", 1, ""}, Shop{"c", 1, ""}, Shop{"r", 4, "low"}
	aq, bq, ap, bp := Bind{Shop: "a", To: "q"}, Bind{Shop: "b", To: "q"}, Bind{Shop: "a", To: "b", Up: true}, Bind{Shop: "b", To: "a", Up: true}
	aa, ba := Bind{Shop: "a", To: "a"}, Bind{Shop: "b", To: "a"}
	all := []any{a, b, c, r, aq, bq, ap, bp, aa, ba}
	for _, one := range []struct {
		name string
		left []any
	}{
		{"a", []any{b, c, r, bq, bp, ba}},
		{"b", []any{a, c, r, aq, ap, aa}},
		{"c", []any{a, b, r, aq, bq, ap, bp, aa, ba}},
		{"r", []any{a, b, c, aq, bq, ap, bp, aa, ba}},
	} {
		was := made(t, all...)
		got, code := was.Drop(one.name)
		if code != api.OK {
			t.Errorf("%s: %d", one.name, code)
		}
		tells(t, got, one.left...)
		lacks(t, got, one.name)
		tells(t, was, all...)
		again, code := got.Drop(one.name)
		if code != api.ErrNone {
			t.Errorf("%s again: %d", one.name, code)
		}
		tells(t, again, one.left...)
	}
	for _, name := range []string{"", "q", "low", "A", "aa", name17} {
		got, code := made(t, all...).Drop(name)
		if code != api.ErrNone {
			t.Errorf("%q: %d", name, code)
		}
		tells(t, got, all...)
		if got, code = (Book{}).Drop(name); code != api.ErrNone {
			t.Errorf("%q of the zero book: %d", name, code)
		}
		tells(t, got)
	}
	got, _ := made(t, all...).Drop("a")
	got, _ = got.Make(Shop{"a", 0, ""})
	tells(t, got, b, c, r, Shop{"a", 0, ""}, bq, bp, ba)
}

// P14.2: bindings to queues and to places, of each Sort, in order.
func TestBindRight(t *testing.T) {
	l := []any{Shop{"d", 0, ""}, Shop{"f", 1, ""}, Shop{"t", 2, ""}, Shop{"h", 3, ""}}
	for n, key := range []string{"", "a", "a.b", strings.Repeat("k", 64), "*", "#", "a.*.#"} {
		for _, shop := range []string{"h", "t", "f", "d"} {
			if shop == "d" && n > 3 {
				continue
			}
			l = append(l, Bind{Shop: shop, To: name16[n:], Up: n%2 == 0, Key: key, Want: keyed(n + 1)[:n], All: n%3 == 0})
		}
	}
	l = append(l, Bind{Shop: "h", To: "0", Want: keyed(8)})
	for n := 4; n <= len(l); n++ {
		tells(t, made(t, l[:n]...), l[:n]...)
	}
}

// refusesBind: the binding isn't there more, with that error, and the book is as it was.
func refusesBind(t *testing.T, x Bind, want api.Errno, parts ...any) {
	t.Helper()
	b, code := made(t, parts...).Bind(x)
	if code != want {
		t.Errorf("%#v: %d, wanted %d", x, code, want)
	}
	tells(t, b, parts...)
}

// P14.2: each error of a binding, and which of several comes first, whether there is room or not.
func TestBindWrong(t *testing.T) {
	kinds := []any{Shop{"d", 0, ""}, Shop{"f", 1, ""}, Shop{"t", 2, ""}, Shop{"h", 3, ""}, Shop{"r", 4, "low"}}
	full := append(slices.Clone(kinds), binds("f", 32)...)
	badWant, badKey := keyed(9), "A"
	for _, c := range []struct {
		shops string
		x     Bind
		want  api.Errno
	}{
		{" x D low dd", Bind{To: "q"}, api.ErrNone},
		{" x D low dd", Bind{To: "A", Key: badKey, Want: badWant}, api.ErrNone},
		{"r", Bind{To: "q"}, api.ErrKind}, {"r", Bind{To: "low", Up: true}, api.ErrKind},
		{"r", Bind{To: "A", Key: badKey, Want: badWant}, api.ErrKind}, {"r", Bind{}, api.ErrKind},
		{"d f t h", Bind{}, api.ErrEmpty}, {"d f t h", Bind{Key: badKey, Want: badWant}, api.ErrEmpty},
		{"d f t h", Bind{To: name17, Key: badKey, Want: badWant}, api.ErrLong},
		{"d f t h", Bind{To: strings.Repeat("A", 17)}, api.ErrLong},
		{"d f t h", Bind{To: "A", Key: strings.Repeat("k", 65), Want: badWant}, api.ErrForm},
		{"d f t h", Bind{To: "a.b"}, api.ErrForm}, {"d f t h", Bind{To: "*"}, api.ErrForm},
		{"d f t h", Bind{To: "q", Key: strings.Repeat("k", 65), Want: badWant}, api.ErrLong},
		{"d f t h", Bind{To: "q", Key: badKey, Want: badWant}, api.ErrForm},
		{"d f t h", Bind{To: "q", Key: "a..b"}, api.ErrForm}, {"d f t h", Bind{To: "q", Key: "a*"}, api.ErrForm},
		{"d", Bind{To: "q", Key: "*", Want: badWant}, api.ErrForm}, {"d", Bind{To: "q", Key: "a.#"}, api.ErrForm},
		{"f t h", Bind{To: "q", Key: "*", Want: badWant}, api.ErrMany},
		{"d f t h", Bind{To: "q", Key: "a", Want: badWant}, api.ErrMany},
		{"d f t h", Bind{To: "q", Want: []api.Pair{{}}}, api.ErrEmpty},
		{"d f t h", Bind{To: "q", Want: []api.Pair{pair("a", 3, 0, "")}}, api.ErrKind},
		{"d f t h", Bind{To: "q", Want: []api.Pair{pair("a", 2, 2, "")}}, api.ErrRange},
		{"d f t h", Bind{To: "q", Want: []api.Pair{pair("a", 0, 0, "x")}}, api.ErrForm},
		{"d f t h", Bind{To: "q", Want: []api.Pair{pair("a", 0, 0, ""), pair("a", 0, 1, "")}}, api.ErrThere},
	} {
		for _, shop := range strings.Split(c.shops, " ") {
			for _, way := range []bool{false, true} {
				x := c.x
				x.Shop, x.Up, x.All = shop, x.Up || way, way
				refusesBind(t, x, c.want, kinds...)
				refusesBind(t, x, c.want, full...)
			}
		}
	}
	for _, shop := range []string{"d", "f", "t", "h"} {
		refusesBind(t, Bind{Shop: shop, To: "q"}, api.ErrFull, full...)
		refusesBind(t, Bind{Shop: shop, To: "low", Up: true}, api.ErrFull, full...)
	}
	for _, shop := range []string{"", "a", "d"} {
		refusesBind(t, Bind{Shop: shop, To: "q"}, api.ErrNone)
	}
}

// unlike: bindings of the exchanges a and b no two of which are the same, each pair in one thing alone.
func unlike() []any {
	base := Bind{Shop: "a", To: "q", Key: "k", Want: []api.Pair{pair("a", 0, 1, ""), pair("b", 0, 1, "")}}
	l := []any{base}
	for _, change := range []func(*Bind){
		func(x *Bind) { x.Shop = "b" },
		func(x *Bind) { x.To = "p" },
		func(x *Bind) { x.Up = true },
		func(x *Bind) { x.Key = "" },
		func(x *Bind) { x.Key = "k.k" },
		func(x *Bind) { x.Key = "*" },
		func(x *Bind) { x.Want = nil },
		func(x *Bind) { x.Want = x.Want[:1] },
		func(x *Bind) { x.Want = x.Want[1:] },
		func(x *Bind) { x.Want = []api.Pair{x.Want[1], x.Want[0]} },
		func(x *Bind) { x.Want = []api.Pair{x.Want[0], pair("b", 0, 2, "")} },
		func(x *Bind) { x.Want = []api.Pair{x.Want[0], pair("b", 2, 1, "")} },
		func(x *Bind) { x.Want = []api.Pair{x.Want[0], pair("b", 1, 0, "")} },
		func(x *Bind) { x.Want = []api.Pair{x.Want[0], pair("b", 1, 0, "x")} },
		func(x *Bind) { x.Want = []api.Pair{x.Want[0], pair("c", 0, 1, "")} },
		func(x *Bind) { x.All = true },
	} {
		x := base
		change(&x)
		l = append(l, x)
	}
	return l
}

// P14.2: the very same binding again: the same book; one that is another one in one thing alone is one more.
func TestBindAgain(t *testing.T) {
	for _, sort := range []uint8{match.Fanout, match.Topic, match.Heads} {
		ahead := []any{Shop{"a", sort, ""}, Shop{"b", sort, ""}}
		all := append(ahead, unlike()...)
		tells(t, made(t, all...), all...)
		for _, one := range unlike() {
			x := one.(Bind)
			x.Want = slices.Clone(x.Want)
			refusesBind(t, x, api.OK, all...)
			if len(x.Want) == 0 {
				x.Want = []api.Pair{}
				refusesBind(t, x, api.OK, all...)
			}
		}
		full := append(all, binds("b", 32-len(unlike()))...)
		for _, one := range full[2:] {
			refusesBind(t, one.(Bind), api.OK, full...)
		}
		refusesBind(t, Bind{Shop: "b", To: "new"}, api.ErrFull, full...)
	}
}

// P14.2: 32 bindings have room, of whatever exchanges; a thirty-third hasn't, till one is gone.
func TestBindFull(t *testing.T) {
	all := shops(8)
	for n := range 8 {
		all = append(all, binds("s"+strconv.Itoa(n), 4)...)
	}
	for n := 8; n < len(all); n++ {
		tells(t, made(t, all[:n+1]...), all[:n+1]...)
	}
	for n := range 8 {
		refusesBind(t, Bind{Shop: "s" + strconv.Itoa(n), To: "new"}, api.ErrFull, all...)
		refusesBind(t, Bind{Shop: "s" + strconv.Itoa(n), To: "new", Up: true}, api.ErrFull, all...)
	}
	x := Bind{Shop: "s5", To: "new", Up: true}
	b, code := made(t, all...).Unbind(all[20].(Bind))
	if code != api.OK {
		t.Errorf("Unbind: %d", code)
	}
	if b, code = b.Bind(x); code != api.OK {
		t.Errorf("behind an Unbind: %d", code)
	}
	tells(t, b, append(slices.Delete(slices.Clone(all), 20, 21), x)...)
}

// P14.2: just the very same binding is gone; where it isn't there, none is.
func TestUnbind(t *testing.T) {
	ahead := []any{Shop{"a", match.Topic, ""}, Shop{"b", match.Topic, ""}, Shop{"r", Release, "low"}}
	all := append(ahead, unlike()...)
	for at, one := range all {
		x, is := one.(Bind)
		if !is {
			continue
		}
		x.Want = slices.Clone(x.Want)
		was := made(t, all...)
		left := slices.Delete(slices.Clone(all), at, at+1)
		got, code := was.Unbind(x)
		if code != api.OK {
			t.Errorf("%#v: %d", x, code)
		}
		tells(t, got, left...)
		tells(t, was, all...)
		again, code := got.Unbind(x)
		if code != api.ErrNone {
			t.Errorf("%#v again: %d", x, code)
		}
		tells(t, again, left...)
	}
	for _, x := range []Bind{
		{}, {Shop: "x", To: "q"}, {Shop: "a", To: "x"}, {Shop: "r", To: "low"}, {Shop: "r", To: "low", Up: true},
		{Shop: "a", To: "A", Key: "A", Want: keyed(9)}, {To: "q", Key: "k"},
	} {
		got, code := made(t, all...).Unbind(x)
		if code != api.ErrNone {
			t.Errorf("%#v: %d", x, code)
		}
		tells(t, got, all...)
		if got, code = (Book{}).Unbind(x); code != api.ErrNone {
			t.Errorf("%#v of the zero book: %d", x, code)
		}
		tells(t, got)
	}
	all = append(ahead, Bind{Shop: "a", To: "q", Want: []api.Pair{}})
	got, code := made(t, all...).Unbind(Bind{Shop: "a", To: "q"})
	if code != api.OK {
		t.Errorf("of no Want: %d", code)
	}
	tells(t, got, ahead...)
}

// P14.2: without all bindings to a queue, of all exchanges; those to places of that name stay.
func TestForget(t *testing.T) {
	ahead := []any{Shop{"q", 1, ""}, Shop{"b", 2, ""}, Shop{"r", 4, "q"}}
	others := []any{
		Bind{Shop: "q", To: "q", Up: true}, Bind{Shop: "b", To: "q", Up: true, Key: "a"}, Bind{Shop: "q", To: "p"},
		Bind{Shop: "q", To: "p", Up: true}, Bind{Shop: "b", To: "qq"},
	}
	to := []any{
		Bind{Shop: "q", To: "q"}, Bind{Shop: "b", To: "q"}, Bind{Shop: "b", To: "q", Key: "a.#"}, Bind{Shop: "q", To: "q", Want: keyed(2)},
		Bind{Shop: "q", To: "q", All: true},
	}
	all := slices.Clone(ahead)
	for at := range to {
		all = append(all, to[at], others[at])
	}
	left := append(slices.Clone(ahead), others...)
	was := made(t, all...)
	tells(t, was.Forget("q"), left...)
	tells(t, was.Forget("q").Forget("q"), left...)
	tells(t, was, all...)
	for _, name := range []string{"", "r", "b", "x", "Q", name17} {
		tells(t, was.Forget(name), all...)
		tells(t, (Book{}).Forget(name))
	}
	tells(t, made(t, append(ahead, to...)...).Forget("q"), ahead...)
	tells(t, made(t, left...).Forget("q"), left...)
	refusesBind(t, Bind{Shop: "q", To: "q", Up: true}, api.OK, left...)
}

// leads: to these queues and places a message goes; names with blanks between.
func leads(t *testing.T, b Book, shop, key string, h []api.Pair, queues, places string) {
	t.Helper()
	got, up, code := b.Leads(shop, key, h)
	if !slices.Equal(got, strings.Fields(queues)) || !slices.Equal(up, strings.Fields(places)) || code != api.OK {
		t.Errorf("%q, %q, %#v: %q, %q, %d, wanted %q, %q", shop, key, h, got, up, code, queues, places)
	}
}

// P14.3: by each Sort, with the binding's Key, Want and All.
func TestLeadsSorts(t *testing.T) {
	a, b := pair("a", 0, 1, ""), pair("b", 1, 0, "x")
	l := []any{Shop{"d", 0, ""}, Shop{"f", 1, ""}, Shop{"t", 2, ""}, Shop{"h", 3, ""}}
	for _, shop := range []string{"h", "t", "f", "d"} {
		l = append(l,
			Bind{Shop: shop, To: "ab", Key: "a.b"}, Bind{Shop: shop, To: "none"}, Bind{Shop: shop, To: "each", Up: true, All: true},
			Bind{Shop: shop, To: "one", Up: true, Key: "a", Want: []api.Pair{a, b}}, Bind{Shop: shop, To: "both", Key: "a", Want: []api.Pair{a, b}, All: true})
		if shop != "d" {
			l = append(l, Bind{Shop: shop, To: "star", Key: "a.*"}, Bind{Shop: shop, To: "hash", Up: true, Key: "#"})
		}
	}
	book := made(t, l...)
	for _, c := range []struct {
		head           []api.Pair
		queues, places string // to which the exchange of heads leads
	}{
		{nil, "", "each"}, {[]api.Pair{}, "", "each"}, {[]api.Pair{a}, "", "each one"}, {[]api.Pair{b}, "", "each one"},
		{[]api.Pair{b, a}, "both", "each one"}, {[]api.Pair{pair("a", 0, 2, ""), pair("c", 2, 1, "")}, "", "each"},
	} {
		leads(t, book, "d", "a.b", c.head, "ab", "")
		leads(t, book, "d", "a", c.head, "both", "one")
		leads(t, book, "d", "", c.head, "none", "each")
		leads(t, book, "d", "x", c.head, "", "")
		leads(t, book, "t", "a.b", c.head, "ab star", "hash")
		leads(t, book, "t", "a.x", c.head, "star", "hash")
		leads(t, book, "t", "a", c.head, "both", "one hash")
		leads(t, book, "t", "", c.head, "none", "each hash")
		for _, key := range []string{"", "a", "a.b", "x"} {
			leads(t, book, "f", key, c.head, "ab none both star", "each one hash")
			leads(t, book, "h", key, c.head, c.queues, c.places)
		}
	}
}

// P14.3, and the document's example: each once, in the order of the first binding by which it goes; a queue and a place of
// one name are two.
func TestLeadsOnce(t *testing.T) {
	leads(t, made(t, Shop{"f", 1, ""}, Bind{Shop: "f", To: "q"}, Bind{Shop: "f", To: "q", Key: "a"}), "f", "", nil, "q", "")
	book := made(t, Shop{"t", 2, ""},
		Bind{Shop: "t", To: "x", Key: "b"},
		Bind{Shop: "t", To: "z", Up: true, Key: "b"},
		Bind{Shop: "t", To: "y", Key: "a"},
		Bind{Shop: "t", To: "x", Up: true, Key: "#"},
		Bind{Shop: "t", To: "x", Key: "#"},
		Bind{Shop: "t", To: "z", Up: true, Key: "*"},
		Bind{Shop: "t", To: "y", Up: true, Key: "*"},
		Bind{Shop: "t", To: "y", Key: "*"},
		Bind{Shop: "t", To: "x", Up: true, Key: "b", All: true},
		Bind{Shop: "t", To: "x", Key: "a.#"},
		Bind{Shop: "t", To: "w", Key: "#"},
	)
	leads(t, book, "t", "a", nil, "y x w", "x z y")
	leads(t, book, "t", "b", nil, "x y w", "z x y")
	leads(t, book, "t", "c", nil, "x y w", "x z y")
	leads(t, book, "t", "a.b", nil, "x w", "x")
	leads(t, book.Forget("x"), "t", "b", nil, "y w", "z x y")
}

// P14.3: a release leads to its To alone; what isn't there leads nowhere; nor does an exchange without bindings.
func TestLeadsOthers(t *testing.T) {
	book := made(t, Shop{"r", 4, "low"}, Shop{"s", 4, "high"}, Shop{"f", 1, ""}, Shop{"none", 1, ""}, Bind{Shop: "f", To: "r"}, Bind{Shop: "f", To: "low", Up: true})
	for _, key := range []string{"", "a", "a.b"} {
		for _, h := range [][]api.Pair{nil, {}, keyed(8)} {
			leads(t, book, "r", key, h, "", "low")
			leads(t, book, "s", key, h, "", "high")
			leads(t, book, "none", key, h, "", "")
			for _, name := range []string{"", "x", "low", "F", name17} {
				for _, b := range []Book{book, {}} {
					if queues, places, code := b.Leads(name, key, h); len(queues) > 0 || len(places) > 0 || code != api.ErrNone {
						t.Errorf("%q: %q, %q, %d", name, queues, places, code)
					}
				}
			}
		}
	}
	gone, _ := book.Drop("r")
	if queues, places, code := gone.Leads("r", "", nil); len(queues) > 0 || len(places) > 0 || code != api.ErrNone {
		t.Errorf("one that was dropped: %q, %q, %d", queues, places, code)
	}
}

// P14.4: what an exchange leads to is the same, whatever other ones are there, and lead to.
func TestLeadsAlone(t *testing.T) {
	own := []any{
		Shop{"own", 2, ""}, Bind{Shop: "own", To: "q", Key: "a"}, Bind{Shop: "own", To: "p", Up: true, Key: "#"}, Bind{Shop: "own", To: "q", Key: "*"},
		Bind{Shop: "own", To: "o", Key: "a.#"},
	}
	for sort := range uint8(4) {
		var l []any
		for at, one := range own {
			name := "x" + strconv.Itoa(at)
			l = append(l, Shop{Name: name, Sort: sort}, Bind{Shop: name, To: "own"}, Bind{Shop: name, To: "o", Up: true}, Bind{Shop: name, To: "q", All: true}, one)
		}
		l = append(l, Shop{"r", 4, "p"})
		for _, key := range []string{"", "a", "b", "a.b"} {
			queues, places, code := made(t, own...).Leads("own", key, nil)
			got, up, other := made(t, l...).Leads("own", key, nil)
			if !slices.Equal(got, queues) || !slices.Equal(up, places) || other != code {
				t.Errorf("%q: %q, %q, %d, wanted %q, %q, %d", key, got, up, other, queues, places, code)
			}
		}
	}
}

// P14.3: two are the same, if they have the same, in the same order, however they came to it.
func TestSame(t *testing.T) {
	a, b, r := Shop{"a", 1, ""}, Shop{"b", 1, ""}, Shop{"r", 4, "low"}
	x, y := Bind{Shop: "a", To: "q"}, Bind{Shop: "b", To: "q"}
	lists := [][]any{
		{}, {a}, {b}, {Shop{"a", 2, ""}}, {a, b}, {b, a}, {r}, {Shop{"r", 4, "high"}}, {a, r}, {r, a}, {a, b, r},
		{a, x}, {b, y}, {a, b, x}, {a, b, y}, {a, b, x, y}, {a, b, y, x}, {b, a, x, y}, {Shop{"a", 2, ""}, x}, shops(8),
		append(shops(1), binds("s0", 31)...), append(shops(1), binds("s0", 32)...),
	}
	for _, one := range unlike()[1:] {
		lists = append(lists, []any{a, b, one})
	}
	for p := range lists {
		for q := range lists {
			if got := Same(made(t, lists[p]...), made(t, lists[q]...)); got != (p == q) {
				t.Errorf("%#v and %#v: %v", lists[p], lists[q], got)
			}
		}
	}
	other, _ := made(t, b, a, y, r, x).Drop("b")
	other, _ = other.Drop("r")
	if !Same(other, made(t, a, x)) || !Same(made(t, a, x), other) {
		t.Error("what was made and dropped tells")
	}
	other, _ = other.Unbind(x)
	if other, _ = other.Drop("a"); !Same(other, Book{}) {
		t.Error("a book from which all is gone")
	}
	if !Same(made(t, a, x), made(t, a, Bind{Shop: "a", To: "q", Want: []api.Pair{}})) {
		t.Error("bindings without a Want")
	}
}
