package octet

import (
	"math"
	"strings"
	"testing"

	"stairwell/api"
)

// P1.1: the zero Out has no bytes, and no error.
func TestOutZero(t *testing.T) {
	var o Out
	if o.String() != "" || o.Err() != api.OK {
		t.Errorf("%q, %d", o.String(), o.Err())
	}
}

// P1.1: a number stands with its highest byte first; there may be too much room for it, or too little.
func TestOutNum(t *testing.T) {
	for _, c := range []struct {
		n     uint64
		bytes int
		want  string
	}{
		{258, 2, "\x01\x02"},
		{258, 1, "\x02"},
		{258, 3, "\x00\x01\x02"},
		{0, 4, "\x00\x00\x00\x00"},
		{0x0102030405060708, 8, "\x01\x02\x03\x04\x05\x06\x07\x08"},
		{0x0102030405060708, 7, "\x02\x03\x04\x05\x06\x07\x08"},
		{0x0102030405060708, 4, "\x05\x06\x07\x08"},
		{0x0102030405060708, 9, "\x01\x02\x03\x04\x05\x06\x07\x08"},
		{0x0102030405060708, 0, ""},
		{0x0102030405060708, -1, ""},
		{1, 20, "\x00\x00\x00\x00\x00\x00\x00\x01"},
		{math.MaxUint64, 8, "\xff\xff\xff\xff\xff\xff\xff\xff"},
		{math.MaxUint64, math.MaxInt, "\xff\xff\xff\xff\xff\xff\xff\xff"},
		{math.MaxUint64, math.MinInt, ""},
	} {
		o := Out{}.Num(c.n, c.bytes)
		if o.String() != c.want || o.Err() != api.OK {
			t.Errorf("Num(%d, %d): %q, %d, wanted %q", c.n, c.bytes, o.String(), o.Err(), c.want)
		}
	}
}

// P1.1: a text stands behind its length; raw bytes stand as they are; all stand in order.
func TestOutText(t *testing.T) {
	for _, c := range []struct {
		out  Out
		want string
	}{
		{Out{}.Text("ab"), "\x00\x02ab"},
		{Out{}.Text(""), "\x00\x00"},
		{Out{}.Text("\x00\xff\xc3\xa9"), "\x00\x04\x00\xff\xc3\xa9"},
		{Out{}.Text(strings.Repeat("x", 258)), "\x01\x02" + strings.Repeat("x", 258)},
		{Out{}.Raw("ab"), "ab"},
		{Out{}.Raw(""), ""},
		{Out{}.Raw("\x00\xff"), "\x00\xff"},
		{Out{}.Num(258, 2).Text("ab"), "\x01\x02\x00\x02ab"},
		{Out{}.Raw("z").Text("ab").Raw("y").Num(7, 1), "z\x00\x02aby\x07"},
	} {
		if c.out.String() != c.want || c.out.Err() != api.OK {
			t.Errorf("%q, %d, wanted %q", c.out.String(), c.out.Err(), c.want)
		}
	}
}

// P1.1: the longest text, and one byte more: of that nothing stands, and the error stays; what comes behind stands.
func TestOutTextLongest(t *testing.T) {
	most := strings.Repeat("m", 65535)
	o := Out{}.Raw("a").Text(most)
	if o.Err() != api.OK || o.String() != "a\xff\xff"+most {
		t.Errorf("longest: %d bytes, %d", len(o.String()), o.Err())
	}
	long := Out{}.Raw("a").Text(most + "m")
	if long.Err() != api.ErrLong || long.String() != "a" {
		t.Errorf("too long: %d bytes, %d", len(long.String()), long.Err())
	}
	on := long.Num(1, 1).Text("b").Raw("c")
	if on.Err() != api.ErrLong || on.String() != "a\x01\x00\x01bc" {
		t.Errorf("behind too long: %q, %d", on.String(), on.Err())
	}
}

// P1.1: an Out stays as it was, whatever is written behind it.
func TestOutStays(t *testing.T) {
	one := Out{}.Num(1, 1)
	a, b := one.Raw("a"), one.Text("b")
	c := one.Text(strings.Repeat("c", 65536))
	if one.String() != "\x01" || one.Err() != api.OK {
		t.Errorf("one: %q, %d", one.String(), one.Err())
	}
	if a.String() != "\x01a" || b.String() != "\x01\x00\x01b" || c.String() != "\x01" {
		t.Errorf("%q, %q, %q", a.String(), b.String(), c.String())
	}
	if a.Err() != api.OK || b.Err() != api.OK || c.Err() != api.ErrLong {
		t.Errorf("%d, %d, %d", a.Err(), b.Err(), c.Err())
	}
}

// state: an In has that error, so many bytes left, and that End.
func state(t *testing.T, what string, i *In, err api.Errno, left int, end api.Errno) {
	t.Helper()
	if i.Err() != err || i.Left() != left || i.End() != end {
		t.Errorf("%s: Err %d, Left %d, End %d, wanted %d, %d, %d", what, i.Err(), i.Left(), i.End(), err, left, end)
	}
}

// P1.2: numbers are read with the highest byte first, of 0 to 8 bytes.
func TestInNum(t *testing.T) {
	const all = "\x81\x02\x03\x04\x05\x06\x07\x08\x09"
	for _, c := range []struct {
		bytes int
		want  uint64
		left  int
	}{
		{math.MinInt, 0, 9}, {-1, 0, 9}, {0, 0, 9},
		{1, 0x81, 8}, {2, 0x8102, 7}, {4, 0x81020304, 5}, {7, 0x81020304050607, 2},
		{8, 0x8102030405060708, 1}, {9, 0x8102030405060708, 1}, {math.MaxInt, 0x8102030405060708, 1},
	} {
		i := New(all)
		if n := i.Num(c.bytes); n != c.want {
			t.Errorf("Num(%d): %#x, wanted %#x", c.bytes, n, c.want)
		}
		state(t, "number", i, api.OK, c.left, api.ErrForm)
	}
}

// P1.2: texts are read, up to just the most bytes.
func TestInText(t *testing.T) {
	for _, c := range []struct {
		s    string
		most int
		want string
		left int
	}{
		{"\x00\x02ab", 2, "ab", 0},
		{"\x00\x02abc", 9, "ab", 1},
		{"\x00\x00", 0, "", 0},
		{"\x00\x00", math.MaxInt, "", 0},
		{"\x01\x02" + strings.Repeat("x", 258), 258, strings.Repeat("x", 258), 0},
		{"\xff\xff" + strings.Repeat("x", 65535), 65535, strings.Repeat("x", 65535), 0},
		{"\x00\x03\x00\xff\xc3", 3, "\x00\xff\xc3", 0},
	} {
		i := New(c.s)
		if s := i.Text(c.most); s != c.want {
			t.Errorf("text of %d bytes: %q", len(c.want), s)
		}
		if i.Err() != api.OK || i.Left() != c.left {
			t.Errorf("text of %d bytes: Err %d, Left %d", len(c.want), i.Err(), i.Left())
		}
	}
}

// P1.2: raw bytes; of fewer than none, none.
func TestInRaw(t *testing.T) {
	i := New("ab\x00\xff")
	if a, b, c := i.Raw(0), i.Raw(-1), i.Raw(math.MinInt); a != "" || b != "" || c != "" {
		t.Errorf("%q, %q, %q", a, b, c)
	}
	state(t, "none read", i, api.OK, 4, api.ErrForm)
	if a, b := i.Raw(1), i.Raw(3); a != "a" || b != "b\x00\xff" {
		t.Errorf("%q, %q", a, b)
	}
	state(t, "all read", i, api.OK, 0, api.OK)
	if i.Raw(0) != "" || i.Num(0) != 0 {
		t.Error("something behind the end")
	}
	state(t, "nothing asked behind the end", i, api.OK, 0, api.OK)
}

// P1.2: too few bytes, and too long a text, which is told ahead of whether it is there.
func TestInErrors(t *testing.T) {
	for _, c := range []struct {
		what string
		s    string
		read func(i *In) bool // is it nothing?
		want api.Errno
	}{
		{"number of none", "", func(i *In) bool { return i.Num(1) == 0 }, api.ErrShort},
		{"number", "\x01", func(i *In) bool { return i.Num(2) == 0 }, api.ErrShort},
		{"widest number", "1234567", func(i *In) bool { return i.Num(100) == 0 }, api.ErrShort},
		{"raw", "ab", func(i *In) bool { return i.Raw(3) == "" }, api.ErrShort},
		{"all raw", "ab", func(i *In) bool { return i.Raw(math.MaxInt) == "" }, api.ErrShort},
		{"no length", "", func(i *In) bool { return i.Text(9) == "" }, api.ErrShort},
		{"half a length", "\x00", func(i *In) bool { return i.Text(9) == "" }, api.ErrShort},
		{"half a length, nothing allowed", "\x09", func(i *In) bool { return i.Text(-1) == "" }, api.ErrShort},
		{"text", "\x00\x05ab", func(i *In) bool { return i.Text(9) == "" }, api.ErrShort},
		{"text, just as long", "\x00\x05abcd", func(i *In) bool { return i.Text(5) == "" }, api.ErrShort},
		{"long, and short", "\x00\x05ab", func(i *In) bool { return i.Text(4) == "" }, api.ErrLong},
		{"long", "\x00\x05abcde", func(i *In) bool { return i.Text(4) == "" }, api.ErrLong},
		{"long of none", "\x00\x01a", func(i *In) bool { return i.Text(0) == "" }, api.ErrLong},
		{"long of fewer than none", "\x00\x00", func(i *In) bool { return i.Text(-1) == "" }, api.ErrLong},
		{"long of the fewest", "\x00\x00", func(i *In) bool { return i.Text(math.MinInt) == "" }, api.ErrLong},
	} {
		i := New(c.s)
		if !c.read(i) {
			t.Errorf("%s: something was read", c.what)
		}
		state(t, c.what, i, c.want, 0, c.want)
	}
}

// P1.2: behind an error nothing is read, and the first error stays.
func TestInBehindError(t *testing.T) {
	i := New("\x00\x05abcdefgh")
	i.Text(4)
	if i.Num(1) != 0 || i.Num(0) != 0 || i.Text(9) != "" || i.Text(-1) != "" || i.Raw(1) != "" || i.Raw(99) != "" {
		t.Error("something was read")
	}
	i.Fail(api.ErrKind)
	state(t, "behind long", i, api.ErrLong, 0, api.ErrLong)
	j := New("ab")
	j.Num(3)
	if j.Raw(1) != "" || j.Text(-1) != "" {
		t.Error("something was read")
	}
	state(t, "behind short", j, api.ErrShort, 0, api.ErrShort)
}

// P1.2: Fail is an error like another one; OK isn't one.
func TestInFail(t *testing.T) {
	i := New("abc")
	i.Raw(1)
	i.Fail(api.OK)
	state(t, "failed with OK", i, api.OK, 2, api.ErrForm)
	i.Fail(api.ErrKind)
	state(t, "failed", i, api.ErrKind, 0, api.ErrKind)
	if i.Raw(1) != "" || i.Num(1) != 0 {
		t.Error("something was read")
	}
	i.Fail(api.ErrRange)
	i.Fail(api.OK)
	state(t, "failed again", i, api.ErrKind, 0, api.ErrKind)
	j := New("")
	j.Fail(-7)
	state(t, "another number", j, -7, 0, -7)
}

// P1.2: End only tells; what is left can be read yet.
func TestInEnd(t *testing.T) {
	i := New("ab")
	state(t, "at the front", i, api.OK, 2, api.ErrForm)
	if i.Raw(2) != "ab" {
		t.Error("End took something")
	}
	state(t, "behind all", i, api.OK, 0, api.OK)
	state(t, "of nothing", New(""), api.OK, 0, api.OK)
}

// P1.2: of nil nothing, 0, ErrNil.
func TestInNil(t *testing.T) {
	var i *In
	i.Fail(api.ErrKind)
	if i.Num(2) != 0 || i.Text(9) != "" || i.Text(-1) != "" || i.Raw(1) != "" || i.Raw(-1) != "" {
		t.Error("something was read of nil")
	}
	state(t, "nil", i, api.ErrNil, 0, api.ErrNil)
}

// P1.2: two that read the same bytes know nothing of each other.
func TestInAlone(t *testing.T) {
	a, b := New("ab"), New("ab")
	a.Raw(1)
	a.Fail(api.ErrKind)
	state(t, "the other one", b, api.OK, 2, api.ErrForm)
}

// field is a number of some width, or, if the width is none, a text.
type field struct {
	width int
	n     uint64
	text  string
}

// write: a row of fields as bytes.
func write(row []field) string {
	var o Out
	for _, f := range row {
		if f.width < 0 {
			o = o.Text(f.text)
		} else {
			o = o.Num(f.n, f.width)
		}
	}
	return o.String()
}

// P1.3: a row of numbers of all widths, and of texts, is read as it was.
func TestWrittenIsRead(t *testing.T) {
	n := uint64(1)
	for length := range 60 {
		var row []field
		for at := range length {
			n = n*6364136223846793005 + 1442695040888963407
			width := int(n>>60)%10 - 1
			f := field{width: width}
			if width < 0 {
				f.text = strings.Repeat(string(rune(n>>40&0x7f))+"\xff", at*at)
			} else if width > 0 {
				f.n = n >> (8 * (8 - width))
			}
			row = append(row, f)
		}
		i := New(write(row))
		for at, f := range row {
			if f.width < 0 && i.Text(len(f.text)) != f.text {
				t.Fatalf("row of %d: text %d", length, at)
			}
			if f.width >= 0 && i.Num(f.width) != f.n {
				t.Fatalf("row of %d: number %d of %d bytes", length, at, f.width)
			}
		}
		state(t, "behind the row", i, api.OK, 0, api.OK)
	}
}

// P1.3: rows of a text, a number of a byte and a text have the same bytes only if they are the same.
func TestUnlikeRows(t *testing.T) {
	texts := []string{"", "\x00", "\x01", "a", "\x00\x00", "\x00\x01", "\x01\x00", "\x00\x01a", "\x00\x00\x00"}
	seen := map[string][3]int{}
	for a := range texts {
		for n := range 3 {
			for b := range texts {
				row := [3]int{a, n, b}
				s := write([]field{{width: -1, text: texts[a]}, {width: 1, n: uint64(n)}, {width: -1, text: texts[b]}})
				if other, there := seen[s]; there {
					t.Fatalf("%v and %v: both %q", row, other, s)
				}
				seen[s] = row
			}
		}
	}
}
