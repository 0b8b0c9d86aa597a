package deed

import (
	"math"
	"math/rand"
	"reflect"
	"slices"
	"strings"
	"testing"

	"stairwell/api"
	"stairwell/route"
	"stairwell/stock"
)

// P22.1: the document's example.
func TestExample(t *testing.T) {
	if s, code := (Deed{Kind: Wake, Tick: 1}).Bytes(); s != "\x0b\x00\x00\x00\x00\x00\x00\x00\x01" || code != api.OK {
		t.Errorf("%x, %d", s, code)
	}
}

// Of Types: the kinds, and Most.
func TestKinds(t *testing.T) {
	for number, kind := range []uint8{MakeShop, DropShop, MakeQueue, DropQueue, Bind, Unbind, Put, Lend, Settle, Late, Pull, Wake, Note} {
		if int(kind) != number {
			t.Errorf("kind %d is %d", number, kind)
		}
	}
	if Most != 255 {
		t.Errorf("%d", Most)
	}
}

// P22.1: deeds that may be, of all kinds, and their bytes.
func TestCheckRight(t *testing.T) {
	for _, d := range deeds() {
		checked(t, d, api.OK)
	}
	checked(t, Deed{Kind: MakeShop, Shop: route.Shop{Name: "a", Sort: route.Release}}, api.OK)     // a Release without To
	checked(t, Deed{Kind: MakeShop, Shop: route.Shop{Name: "a", Sort: 0, To: "b"}}, api.OK)        // a To of no Release
	checked(t, Deed{Kind: MakeQueue, Queue: stock.Queue{Name: "q", Most: 0}}, api.OK)              // what no queue may have
	checked(t, Deed{Kind: MakeQueue, Queue: stock.Queue{Name: "q", Most: math.MaxUint64}}, api.OK) // nor this
	checked(t, Deed{Kind: Bind, Bind: route.Bind{Shop: "a", To: "b", Key: "A..*#"}}, api.OK)       // what is no pattern
	checked(t, Deed{Kind: Pull, From: 255, Mail: api.Mail{Shop: "a"}}, api.OK)                     // no place
}

// P22.1: bytes that are known, of each kind.
func TestBytesKnown(t *testing.T) {
	const eight, tick = "\x01\x02\x03\x04\x05\x06\x07\x08", "\x11\x12\x13\x14\x15\x16\x17\x18"
	const n = 0x0102030405060708
	const zeros = "\x00\x00\x00\x00\x00\x00\x00"
	h := []api.Pair{pair("p", 2, 1, "")}
	const headOf = "\x01\x00\x01p\x02\x01"
	m := api.Mail{ID: n, Shop: "s", Key: "k.l", Head: h, Body: "xyz", Due: 3, Hops: 4}
	const mailOf = eight + "\x00\x01s" + "\x00\x03k.l" + headOf + "\x00\x03xyz" + zeros + "\x03" + "\x04"
	for _, c := range []struct {
		d     Deed
		bytes string
	}{
		{Deed{Kind: MakeShop, Shop: route.Shop{Name: "ab", Sort: 4, To: "c"}}, "\x00" + tick + "\x00\x02ab" + "\x04" + "\x00\x01c"},
		{Deed{Kind: MakeShop, Shop: route.Shop{Name: "a"}}, "\x00" + tick + "\x00\x01a" + "\x00" + "\x00\x00"},
		{Deed{Kind: DropShop, Name: "ab"}, "\x01" + tick + "\x00\x02ab"},
		{Deed{Kind: MakeQueue, Queue: stock.Queue{Name: "ab", Most: n, Life: 2, Dead: "c"}}, "\x02" + tick + "\x00\x02ab" + eight + zeros + "\x02" + "\x00\x01c"},
		{Deed{Kind: DropQueue, Name: "ab"}, "\x03" + tick + "\x00\x02ab"},
		{Deed{Kind: Bind, Bind: route.Bind{Shop: "ab", To: "c", Up: true, Key: "*.#", Want: h}}, "\x04" + tick + "\x00\x02ab" + "\x00\x01c" + "\x01" + "\x00\x03*.#" + headOf + "\x00"},
		{Deed{Kind: Unbind, Bind: route.Bind{Shop: "a", To: "bc", All: true}}, "\x05" + tick + "\x00\x01a" + "\x00\x02bc" + "\x00" + "\x00\x00" + "\x00" + "\x01"},
		{Deed{Kind: Put, Mail: m}, "\x06" + tick + mailOf},
		{Deed{Kind: Lend, Name: "q"}, "\x07" + tick + "\x00\x01q"},
		{Deed{Kind: Settle, Name: "q", ID: n, How: 2}, "\x08" + tick + "\x00\x01q" + eight + "\x02"},
		{Deed{Kind: Late}, "\x09" + tick},
		{Deed{Kind: Pull, From: 15, Number: 9, Mail: m}, "\x0a" + tick + "\x0f" + zeros + "\x09" + mailOf},
		{Deed{Kind: Wake}, "\x0b" + tick},
		{Deed{Kind: Note, Code: 7, Text: "x y"}, "\x0c" + tick + "\x07" + "\x00\x03x y"},
	} {
		c.d.Tick = 0x1112131415161718
		if s, code := c.d.Bytes(); s != c.bytes || code != api.OK {
			t.Errorf("%#v: %x, %d, wanted %x", c.d, s, code, c.bytes)
		}
		unpacks(t, "\x01"+c.bytes, c.d)
		unpacks(t, "\x03"+c.bytes+c.bytes+c.bytes, c.d, c.d, c.d)
	}
}

// P22.1: another kind, whatever else there is.
func TestOtherKind(t *testing.T) {
	checked(t, Deed{Kind: 12}, api.OK)
	for kind := 13; kind < 256; kind++ {
		checked(t, Deed{Kind: uint8(kind)}, api.ErrKind)
		for like := range uint8(kinds) {
			d := some(like, 1)
			d.Kind = uint8(kind)
			checked(t, d, api.ErrKind)
			refuses(t, "\x01"+byteOf(kind)+plain(some(like, 1))[1:])
		}
		d := Deed{Kind: uint8(kind)}
		for _, one := range all() {
			if l := mayNot(one); len(l) > 0 {
				d = with(d, one, l[len(l)-1].value)
			}
		}
		checked(t, d, api.ErrKind)
	}
}

// unlike: values of something that is told that aren't zero, whether they may be or not.
func unlike(one string) []any {
	var l []any
	for _, value := range mayBe(one) {
		v := reflect.ValueOf(value)
		if !v.IsZero() && (v.Kind() != reflect.Slice || v.Len() > 0) {
			l = append(l, value)
		}
	}
	for _, w := range mayNot(one) {
		if w.value != any("") {
			l = append(l, w.value)
		}
	}
	return l
}

// P22.1: what a kind doesn't tell isn't zero: that is told ahead of what is wrong of what it tells.
func TestCheckUntold(t *testing.T) {
	for kind := range uint8(kinds) {
		for _, one := range untold(kind) {
			values := unlike(one)
			for _, value := range values {
				checked(t, with(some(kind, 1), one, value), api.ErrForm)
				checked(t, with(Deed{Kind: kind}, one, value), api.ErrForm)
			}
			for _, of := range told(kind) {
				for _, w := range mayNot(of) {
					checked(t, with(with(some(kind, 1), of, w.value), one, values[0]), api.ErrForm)
				}
			}
		}
	}
}

// P22.1: an empty head is as none, of kinds that tell one, and of others.
func TestCheckEmptyHead(t *testing.T) {
	for kind := range uint8(kinds) {
		none := some(kind, 0)
		empty := with(with(none, "Mail.Head", []api.Pair{}), "Bind.Want", []api.Pair{})
		spare := with(with(none, "Mail.Head", keyed(3)[:0]), "Bind.Want", keyed(3)[:0])
		for _, d := range []Deed{empty, spare} {
			checked(t, d, api.OK)
			if !Same(d, none) || !Same(none, d) {
				t.Errorf("kind %d: not the same", kind)
			}
		}
	}
}

// P22.1: each error of each thing that each kind tells.
func TestCheckTold(t *testing.T) {
	for kind := range uint8(kinds) {
		for _, one := range told(kind) {
			for _, w := range mayNot(one) {
				for _, which := range []int{0, 1, last} {
					checked(t, with(some(kind, which), one, w.value), w.want)
				}
			}
		}
	}
}

// P22.1: of two things that are wrong the error of the one whose bytes come first is told.
func TestCheckFirst(t *testing.T) {
	for kind := range uint8(kinds) {
		l := told(kind)
		for at, one := range l {
			for _, next := range l[at+1:] {
				for _, w := range mayNot(one) {
					for _, behind := range mayNot(next) {
						checked(t, with(with(some(kind, 1), next, behind.value), one, w.value), w.want)
					}
				}
			}
		}
	}
}

// P22.1: two are the same, if all is the same, whether they may be or not.
func TestSame(t *testing.T) {
	l := []Deed{{}}
	for kind := 1; kind < 256; kind++ {
		l = append(l, Deed{Kind: uint8(kind)})
	}
	for _, of := range []Deed{{}, some(Bind, 1), some(Pull, 1), some(MakeQueue, last)} {
		if of.Kind != MakeShop {
			l = append(l, of)
		}
		for _, one := range append(all(), "Tick") {
			was := field(reflect.ValueOf(of), one).Interface()
			values := unlike(one)
			for _, value := range append(values[:min(4, len(values))], values[len(values)-1]) {
				d := with(of, one, value)
				if !reflect.DeepEqual(was, value) && !slices.ContainsFunc(l, func(other Deed) bool { return alike(other, d) }) {
					l = append(l, d)
				}
			}
		}
	}
	for at, a := range l {
		for other, b := range l {
			b.Mail.Head, b.Bind.Want = slices.Clone(b.Mail.Head), slices.Clone(b.Bind.Want)
			if got := Same(a, b); got != (at == other) {
				t.Fatalf("%#v and %#v: %v", a, b, got)
			}
		}
	}
}

// row: so many deeds, of all kinds in turn.
func row(n int) []Deed {
	var l []Deed
	for at := range n {
		l = append(l, some(uint8(at%kinds), at/kinds))
	}
	return l
}

// P22.2, P22.3: no deeds, few, 255 and 256 of them.
func TestPackCount(t *testing.T) {
	for n := range 256 {
		l := row(n)
		s, code := Pack(l...)
		if code != api.OK || s != packed(l...) {
			t.Fatalf("%d: %x, %d", n, s, code)
		}
		unpacks(t, s, l...)
	}
	if s, code := Pack(); s != "\x00" || code != api.OK {
		t.Errorf("%x, %d", s, code)
	}
	unpacks(t, "\x00")
	for _, n := range []int{256, 257, 300, 511, 512, 1000} {
		if s, code := Pack(row(n)...); s != "" || code != api.ErrMany {
			t.Errorf("%d: %d bytes, %d", n, len(s), code)
		}
		l := row(n)
		l[0] = Deed{Kind: 99}
		if s, code := Pack(l...); s != "" || code != api.ErrMany { // how many there are is told ahead of what they are
			t.Errorf("%d: %d bytes, %d", n, len(s), code)
		}
	}
}

// P22.2: the error of the first deed that may not be, and no bytes.
func TestPackWrong(t *testing.T) {
	wrongs := []wrong{
		{Deed{Kind: 13}, api.ErrKind}, {Deed{Kind: Wake, ID: 1}, api.ErrForm}, {Deed{Kind: Lend}, api.ErrEmpty},
		{Deed{Kind: Note, Text: long(65)}, api.ErrLong}, {Deed{Kind: Settle, Name: "q", How: 3}, api.ErrRange},
		{Deed{Kind: Put, Mail: api.Mail{Shop: "s", Head: keyed(9)}}, api.ErrMany},
		{Deed{Kind: Bind, Bind: route.Bind{Shop: "a", To: "b", Want: append(keyed(1), keyed(1)...)}}, api.ErrThere},
	}
	for _, n := range []int{1, 2, 3, 254, 255} {
		for _, at := range []int{0, n / 2, n - 1} {
			for _, w := range wrongs {
				l := row(n)
				l[at] = w.value.(Deed)
				if s, code := Pack(l...); s != "" || code != w.want {
					t.Errorf("%d of %d: %x, %d, wanted %d", at, n, s, code, w.want)
				}
				if w.want != api.ErrForm { // as bytes there is nothing that its kind doesn't tell
					refuses(t, packed(l...))
				}
				for _, behind := range wrongs {
					if at < n-1 {
						l[n-1] = behind.value.(Deed)
						if s, code := Pack(l...); s != "" || code != w.want {
							t.Errorf("%d of %d: %x, %d, wanted %d", at, n, s, code, w.want)
						}
					}
				}
			}
		}
	}
}

// P22.3: deeds of all kinds, at all edges, are unpacked as they were.
func TestUnpack(t *testing.T) {
	var some []Deed
	for _, d := range deeds() {
		unpacks(t, "\x01"+plain(d), d)
		some = append(some, d)
		if len(some) == 200 {
			s, code := Pack(some...)
			if code != api.OK {
				t.Fatalf("%d", code)
			}
			unpacks(t, s, some...)
			some = nil
		}
	}
}

// P22.3: the bytes of two deeds are the same only if these are.
func TestUnlikeBytes(t *testing.T) {
	seen := map[string]Deed{}
	for _, d := range deeds() {
		s, _ := d.Bytes()
		if other, ok := seen[s]; ok && !alike(d, other) {
			t.Errorf("%#v and %#v are both %x", d, other, s)
		}
		seen[s] = d
	}
}

// P22.2: bytes that end at each place, and bytes of one more, and of more; others counted than there are.
func TestUnpackLength(t *testing.T) {
	refuses(t, "")
	for kind := range uint8(kinds) {
		for _, which := range []int{0, 1, last} {
			for _, l := range [][]Deed{{some(kind, which)}, {some(kind, which), some(Wake, 1)}, {some(Lend, 1), some(kind, which)}} {
				s := packed(l...)
				for length := range len(s) {
					refuses(t, s[:length])
				}
				for _, more := range []string{"\x00", "\x01", "\xff", "\x00\x00", s, long(70000)} {
					refuses(t, s+more)
				}
				for count := range 256 {
					if count != len(l) {
						refuses(t, byteOf(count)+s[1:])
					}
				}
			}
		}
	}
	refuses(t, "\x00\x00")
	refuses(t, "\x01")
	refuses(t, "\xff"+strings.Repeat("\x00", 3000))
	refuses(t, strings.Repeat("\xff", 3000))
}

// P22.2: bytes of deeds that may not be.
func TestUnpackWrong(t *testing.T) {
	for kind := range uint8(kinds) {
		for _, one := range told(kind) {
			for _, w := range mayNot(one) {
				for _, which := range []int{0, 1, last} {
					d := with(some(kind, which), one, w.value)
					refuses(t, packed(d))
					refuses(t, packed(some(Wake, 1), d, some(Late, 1)))
				}
			}
		}
	}
}

// P22.2: yes or no is the byte 1 or 0, another one is nothing.
func TestUnpackYes(t *testing.T) {
	for _, kind := range []uint8{Bind, Unbind} {
		for _, which := range []int{0, 1, last} {
			d := some(kind, which)
			s := packed(d)
			up := 1 + 9 + len(plainText(d.Bind.Shop)+plainText(d.Bind.To))
			for _, at := range []int{up, len(s) - 1} {
				for b := range 256 {
					turned := s[:at] + byteOf(b) + s[at+1:]
					if b > 1 {
						refuses(t, turned)
						continue
					}
					name := "Bind.Up"
					if at != up {
						name = "Bind.All"
					}
					unpacks(t, turned, with(d, name, b == 1))
				}
			}
		}
	}
}

// P22.2, P22.3: each byte turned to each other one: what is read of it may be, and would be packed so.
func TestUnpackAnyBytes(t *testing.T) {
	read := 0
	for kind := range uint8(kinds) {
		for which := range 2 {
			d := some(kind, which)
			if which > 0 && len(told(kind)) > 4 {
				h := []api.Pair{pair("a", 2, 1, ""), pair("ab", 0, -2, ""), pair("b", 1, 0, "\x00\x01a\x02")}
				d.Mail.Head, d.Bind.Want = h, h
			}
			if d = d.told(); d.Check() != api.OK {
				t.Fatalf("%#v", d)
			}
			s := packed(d, some(Lend, 1))
			for at := range len(s) {
				for b := range 256 {
					turned := s[:at] + byteOf(b) + s[at+1:]
					want, there := plainUnpack(turned)
					if !there {
						refuses(t, turned)
						continue
					}
					unpacks(t, turned, want...)
					if again, code := Pack(want...); again != turned || code != api.OK {
						t.Fatalf("%x: packed again %x, %d", turned, again, code)
					}
					read++
				}
			}
		}
	}
	if read < 10000 {
		t.Errorf("%d were read", read)
	}
}

// P22.3: rows of deeds of all kinds, by chance.
func TestRows(t *testing.T) {
	for seed := range int64(100) {
		r := rand.New(rand.NewSource(seed))
		var l []Deed
		for range r.Intn(256) {
			l = append(l, thrown(r))
		}
		s, code := Pack(l...)
		if code != api.OK || s != packed(l...) {
			t.Fatalf("row %d: %d", seed, code)
		}
		unpacks(t, s, l...)
		if len(l) > 0 {
			at := r.Intn(len(s))
			refuses(t, s[:at])
			refuses(t, s+s[at:])
		}
	}
}

// Memory: what is handed in is neither changed nor kept, spare room included; what is told is new.
func TestMemory(t *testing.T) {
	spare := append(keyed(8), pair("spare", 0, 0, ""))
	was := slices.Clone(spare)
	l := []Deed{
		{Kind: Put, Mail: api.Mail{Shop: "s", Head: spare[:3]}}, {Kind: Bind, Bind: route.Bind{Shop: "s", To: "q", Want: spare[:4]}},
		{Kind: Pull, Mail: api.Mail{Shop: "s", Head: spare[:8]}}, {Kind: Note, Text: "spare"},
	}
	given := slices.Clone(l)
	s, _ := Pack(l[:3]...)
	for _, d := range l {
		d.Check()
		d.Bytes()
		Same(d, l[0])
	}
	if !slices.Equal(spare, was) || !slices.EqualFunc(l, given, alike) {
		t.Errorf("%#v, %#v", spare, l)
	}
	one, code := Unpack(s)
	if code != api.OK {
		t.Fatalf("%d", code)
	}
	two, _ := Unpack(s)
	for at := range one {
		for _, h := range [][]api.Pair{one[at].Mail.Head, one[at].Bind.Want} {
			for n := range h[:cap(h)] {
				h[:cap(h)][n] = pair("over", 2, 1, "")
			}
		}
		one[at].Text = "over"
	}
	_ = append(one, Deed{})
	if !slices.EqualFunc(two, given[:3], alike) || !slices.Equal(spare, was) {
		t.Errorf("%#v", two)
	}
	for at := range spare {
		spare[at] = pair("over", 2, 1, "")
	}
	if again, _ := Unpack(s); !slices.EqualFunc(again, two, alike) {
		t.Errorf("%#v", again)
	}
}
