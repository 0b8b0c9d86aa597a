package deed

import (
	"encoding/binary"
	"math"
	"math/rand"
	"reflect"
	"slices"
	"strconv"
	"strings"
	"testing"

	"stairwell/api"
	"stairwell/head"
	"stairwell/mail"
	"stairwell/octet"
	"stairwell/words"
)

const (
	shopParts  = "Shop.Name Shop.Sort Shop.To"
	queueParts = "Queue.Name Queue.Most Queue.Life Queue.Dead"
	bindParts  = "Bind.Shop Bind.To Bind.Up Bind.Key Bind.Want Bind.All"
	mailParts  = "Mail.ID Mail.Shop Mail.Key Mail.Head Mail.Body Mail.Due Mail.Hops"
)

// table: of each kind what it tells, in the order of its bytes, as the document's table has it.
func table(kind uint8) string {
	return []string{
		shopParts, "Name", queueParts, "Name", bindParts, bindParts, mailParts, "Name", "Name ID How", "",
		"From Number " + mailParts, "", "Code Text",
	}[kind]
}

// kinds is how many there are.
const kinds = 13

// all: what there is to tell.
func all() []string {
	return strings.Fields(shopParts + " " + queueParts + " " + bindParts + " Name ID How From Code Number " + mailParts + " Text")
}

// told: what a kind tells.
func told(kind uint8) []string { return strings.Fields(table(kind)) }

// untold: what it doesn't.
func untold(kind uint8) []string {
	return slices.DeleteFunc(all(), func(one string) bool { return slices.Contains(told(kind), one) })
}

// field: something of a deed, by its name.
func field(v reflect.Value, one string) reflect.Value {
	for _, name := range strings.Split(one, ".") {
		v = v.FieldByName(name)
	}
	return v
}

// with: the deed, something of it being that.
func with(d Deed, one string, value any) Deed {
	field(reflect.ValueOf(&d).Elem(), one).Set(reflect.ValueOf(value))
	return d
}

const (
	name16 = "sixteen-bytes-it"
	name17 = "seventeen-bytes-a"
)

// pair: a pair, whether it may be or not.
func pair(key string, kind uint8, num int64, text string) api.Pair {
	return api.Pair{Key: key, Kind: kind, Num: num, Text: text}
}

// keyed: so many pairs of unlike keys.
func keyed(n int) []api.Pair {
	var l []api.Pair
	for at := range n {
		l = append(l, pair("k"+strconv.Itoa(at), 0, int64(at)-3, ""))
	}
	return l
}

// long: a text of so many bytes, any bytes.
func long(n int) string {
	b := make([]byte, n)
	for at := range b {
		b[at] = byte(at*at*5 + at*37 + 254)
	}
	return string(b)
}

// wordy: a key of so many bytes, of several words.
func wordy(n int) string { return strings.Repeat("ab.", n)[:n-1] + "z" }

// fullest: a head of as many bytes as one may have.
func fullest() []api.Pair {
	h := keyed(8)
	for at := range h {
		h[at] = pair(name16[:15]+strconv.Itoa(at), 1, 0, long(64))
	}
	return h
}

// sortOf: of which sort something is that is told.
func sortOf(one string) string {
	switch one {
	case "Name", "Shop.Name", "Queue.Name", "Bind.Shop", "Bind.To", "Mail.Shop":
		return "name"
	case "Shop.To", "Queue.Dead":
		return "name or none"
	case "Bind.Want", "Mail.Head":
		return "head"
	case "Bind.Key", "Text":
		return "text"
	case "Bind.Up", "Bind.All":
		return "yes"
	case "Tick", "Queue.Most", "Queue.Life", "ID", "Number", "Mail.ID", "Mail.Due":
		return "great"
	}
	return one
}

// mayBe: of what is told values that may be, its edges among them; the first one is the least.
func mayBe(one string) []any {
	var l []any
	upTo := func(most int) {
		for n := range most + 1 {
			l = append(l, uint8(n))
		}
	}
	switch sortOf(one) {
	case "name or none":
		return []any{"", "a", name16, "-_0", "a-b_0"}
	case "name":
		return []any{"a", "b", "-", "_", "0", "a-b_0", name16}
	case "head":
		return []any{[]api.Pair(nil), keyed(1), []api.Pair{}, keyed(7), keyed(8), fullest(),
			[]api.Pair{pair("b", 1, 0, "\x00\x01a"), pair("a", 0, math.MinInt64, ""), pair("c", 2, 0, ""), pair("d", 2, 1, "")}}
	case "text":
		return []any{"", "a", "a..b", "\x00", " *.# A", "\xff\xc3\xa9", long(63), long(64), strings.Repeat("*.", 32)}
	case "yes":
		return []any{false, true}
	case "great":
		return []any{uint64(0), uint64(1), uint64(2), uint64(64), uint64(65), uint64(255), uint64(256), uint64(1 << 32), uint64(1 << 63), uint64(0x0102030405060708), uint64(math.MaxUint64)}
	case "Mail.Key":
		return []any{"", "a", "a.b", "-._.0", wordy(63), wordy(64), strings.Repeat("k", 64)}
	case "Mail.Body":
		return []any{"", "x", "\x00\x01x", long(255), long(256)}
	case "Shop.Sort", "Mail.Hops":
		upTo(4)
	case "How":
		upTo(2)
	case "From", "Code":
		upTo(255)
	}
	return l
}

// wrong is a value that may not be, and what is said of it.
type wrong struct {
	value any
	want  api.Errno
}

// mayNot: of what is told values that may not be.
func mayNot(one string) []wrong {
	var l []wrong
	texts := func(want api.Errno, values ...string) {
		for _, s := range values {
			l = append(l, wrong{s, want})
		}
	}
	from := func(least int, want api.Errno) {
		for n := least; n < 256; n++ {
			l = append(l, wrong{uint8(n), want})
		}
	}
	switch sortOf(one) {
	case "name":
		texts(api.ErrEmpty, "")
		fallthrough
	case "name or none":
		texts(api.ErrLong, name17, strings.Repeat("A", 17), long(256), long(65536))
		texts(api.ErrForm, "A", "a.b", "*", "#", " ", "a ", "\x00", "é", name16[:15]+"/")
	case "head":
		heads := func(want api.Errno, h ...api.Pair) { l = append(l, wrong{h, want}) }
		heads(api.ErrMany, keyed(9)...)
		heads(api.ErrEmpty, api.Pair{})
		heads(api.ErrForm, pair("A", 0, 0, ""))
		heads(api.ErrKind, pair("a", 3, 0, ""))
		heads(api.ErrLong, pair("a", 1, 0, long(65)))
		heads(api.ErrRange, pair("a", 2, 2, ""))
		heads(api.ErrThere, pair("a", 0, 0, ""), pair("a", 2, 1, ""))
	case "text":
		texts(api.ErrLong, long(65), strings.Repeat("a", 65), long(256), long(65535), long(65536))
	case "Mail.Key":
		texts(api.ErrLong, wordy(65), strings.Repeat("A", 65))
		texts(api.ErrForm, "A", ".", "a..b", "*", "#", "\x00")
	case "Mail.Body":
		texts(api.ErrLong, long(257), long(65536))
	case "Shop.Sort":
		from(5, api.ErrKind)
	case "Mail.Hops":
		from(5, api.ErrRange)
	case "How":
		from(3, api.ErrRange)
	}
	return l
}

// last is the number of the values that are the last ones.
const last = 999

// some: a deed of a kind, of each thing that it tells a value that may be: the least, the last, or one between.
func some(kind uint8, which int) Deed {
	ticks := mayBe("Tick")
	d := Deed{Kind: kind, Tick: ticks[min(which, len(ticks)-1)].(uint64)}
	for _, one := range told(kind) {
		l := mayBe(one)
		d = with(d, one, l[min(which, len(l)-1)])
	}
	return d
}

// deeds: deeds that may be, of all kinds, at all edges.
func deeds() []Deed {
	var l []Deed
	for kind := range uint8(kinds) {
		for _, which := range []int{0, 1, 2, 4, last} {
			l = append(l, some(kind, which))
			for _, one := range append(told(kind), "Tick") {
				for _, value := range mayBe(one) {
					l = append(l, with(some(kind, which), one, value))
				}
			}
		}
	}
	return l
}

// plainText: a text's bytes, as the document's words have them.
func plainText(s string) string {
	return string(binary.BigEndian.AppendUint16(nil, uint16(len(s)))) + s
}

// byteOf: a byte.
func byteOf(n int) string { return string([]byte{byte(n)}) }

// plainHead: a head's bytes, whether it may be or not.
func plainHead(h []api.Pair) string {
	s := byteOf(len(h))
	for _, p := range h {
		s += plainText(p.Key) + byteOf(int(p.Kind))
		switch p.Kind {
		case 0:
			s += string(binary.BigEndian.AppendUint64(nil, uint64(p.Num)))
		case 1:
			s += plainText(p.Text)
		case 2:
			s += byteOf(int(p.Num))
		}
	}
	return s
}

// plainPart: the bytes of something that a deed tells.
func plainPart(d Deed, one string) string {
	switch value := field(reflect.ValueOf(d), one).Interface().(type) {
	case string:
		return plainText(value)
	case []api.Pair:
		return plainHead(value)
	case uint64:
		return string(binary.BigEndian.AppendUint64(nil, value))
	case uint8:
		return byteOf(int(value))
	case bool:
		if value {
			return "\x01"
		}
	}
	return "\x00"
}

// plain: a deed's bytes, whether it may be or not.
func plain(d Deed) string {
	s := plainPart(d, "Kind") + plainPart(d, "Tick")
	if d.Kind >= kinds {
		return s
	}
	for _, one := range told(d.Kind) {
		s += plainPart(d, one)
	}
	return s
}

// packed: the bytes of several, whether they may be or not.
func packed(l ...Deed) string {
	var s strings.Builder
	s.WriteString(byteOf(len(l)))
	for _, d := range l {
		s.WriteString(plain(d))
	}
	return s.String()
}

// plainCheck: what is said of a deed that was read, part by part: kinds tell nothing else then.
func plainCheck(d Deed) api.Errno {
	if d.Kind >= kinds {
		return api.ErrKind
	}
	for _, one := range told(d.Kind) {
		v := field(reflect.ValueOf(d), one)
		code := api.OK
		switch {
		case sortOf(one) == "name", sortOf(one) == "name or none" && v.String() != "":
			code = words.Name(v.String())
		case sortOf(one) == "text" && v.Len() > 64:
			code = api.ErrLong
		case one == "Mail.Key":
			code = words.Key(d.Mail.Key)
		case one == "Shop.Sort" && v.Uint() > 4:
			code = api.ErrKind
		case one == "Mail.Hops" && v.Uint() > 4, one == "How" && v.Uint() > 2:
			code = api.ErrRange
		case one == "Mail.Body" && v.Len() > 256:
			code = api.ErrLong
		case sortOf(one) == "head":
			code = head.Check(v.Interface().([]api.Pair))
		}
		if code != api.OK {
			return code
		}
	}
	return api.OK
}

// plainRead: the deed that comes next, as the document's words have it, heads and messages as layers 9 and 13 read them.
func plainRead(i *octet.In) Deed {
	d := Deed{Kind: uint8(i.Num(1))}
	d.Tick = i.Num(8)
	if d.Kind >= kinds {
		i.Fail(api.ErrKind)
		return d
	}
	for _, one := range told(d.Kind) {
		v := field(reflect.ValueOf(&d).Elem(), one)
		switch {
		case one == "Mail.ID":
			d.Mail = mail.Read(i)
		case strings.HasPrefix(one, "Mail."):
		case v.Kind() == reflect.String:
			v.SetString(i.Text(64))
		case v.Kind() == reflect.Uint64:
			v.SetUint(i.Num(8))
		case v.Kind() == reflect.Uint8:
			v.SetUint(i.Num(1))
		case v.Kind() == reflect.Bool:
			n := i.Num(1)
			if n > 1 {
				i.Fail(api.ErrForm)
			}
			v.SetBool(n == 1)
		default:
			v.Set(reflect.ValueOf(head.Read(i)))
		}
	}
	i.Fail(plainCheck(d))
	return d
}

// plainUnpack: the deeds of some bytes; whether there are such.
func plainUnpack(text string) ([]Deed, bool) {
	i := octet.New(text)
	var l []Deed
	for range i.Num(1) {
		l = append(l, plainRead(i))
	}
	return l, i.End() == api.OK
}

// alike: are two the same in all, heads without pairs being nil or empty?
func alike(a, b Deed) bool {
	for _, d := range []*Deed{&a, &b} {
		if len(d.Mail.Head) == 0 {
			d.Mail.Head = nil
		}
		if len(d.Bind.Want) == 0 {
			d.Bind.Want = nil
		}
	}
	return reflect.DeepEqual(a, b)
}

// checked: what Check says; Bytes and Pack say the same, and tell nothing beside an error.
func checked(t *testing.T, d Deed, want api.Errno) {
	t.Helper()
	if got := d.Check(); got != want {
		t.Fatalf("%#v: %d, wanted %d", d, got, want)
	}
	s, code := d.Bytes()
	if code != want || code != api.OK && s != "" || code == api.OK && s != plain(d) {
		t.Fatalf("%#v: bytes %x, %d, wanted %d", d, s, code, want)
	}
	s, code = Pack(d)
	if code != want || code != api.OK && s != "" || code == api.OK && s != "\x01"+plain(d) {
		t.Fatalf("%#v: packed %x, %d, wanted %d", d, s, code, want)
	}
}

// unpacks: of a text these deeds are read.
func unpacks(t *testing.T, text string, want ...Deed) {
	t.Helper()
	l, code := Unpack(text)
	if code != api.OK || !slices.EqualFunc(l, want, alike) || !slices.EqualFunc(l, want, Same) {
		t.Fatalf("%x: %#v, %d, wanted %#v", text, l, code, want)
	}
}

// refuses: of a text no deeds are read.
func refuses(t *testing.T, text string) {
	t.Helper()
	if l, code := Unpack(text); code != api.ErrForm || len(l) > 0 {
		t.Fatalf("%x: %#v, %d", text, l, code)
	}
}

// thrown: a deed by chance, that may be.
func thrown(r *rand.Rand) Deed {
	d := Deed{Kind: uint8(r.Intn(kinds)), Tick: r.Uint64() >> r.Intn(64)}
	for _, one := range told(d.Kind) {
		l := mayBe(one)
		d = with(d, one, l[r.Intn(len(l))])
	}
	return d
}
