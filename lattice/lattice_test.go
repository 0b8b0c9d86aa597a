package lattice

import (
	"strconv"
	"strings"
	"testing"

	"stairwell/api"
	"stairwell/octet"
)

// label: of a level, and compartments.
func label(level uint8, compartments ...int) api.Label {
	a := api.Label{Level: level}
	for _, c := range compartments {
		a.Set |= 1 << c
	}
	return a
}

// few: all labels of few levels and compartments, the lowest and the highest ones among these.
func few() []api.Label {
	var l []api.Label
	for _, level := range []uint8{0, 1, 14, 15} {
		for bits := range 8 {
			a := label(level)
			for at, c := range []int{0, 5, 31} {
				if bits>>at&1 == 1 {
					a.Set |= 1 << c
				}
			}
			l = append(l, a)
		}
	}
	return l
}

// P3.1: a level is at most MaxLevel, whatever the compartments are.
func TestRight(t *testing.T) {
	for level := range 256 {
		for _, set := range []uint32{0, 1, 1 << 31, ^uint32(0)} {
			a := api.Label{Level: uint8(level), Set: set}
			if got, want := Right(a), level <= 15; got != want {
				t.Errorf("%v: %v, wanted %v", a, got, want)
			}
		}
	}
}

// P3.1, and the document's example: a level that is no higher, and no compartment that the other one hasn't.
func TestUnder(t *testing.T) {
	for _, c := range []struct {
		a, b api.Label
		want bool
	}{
		{label(2, 0, 5), label(3, 0, 5, 7), true},
		{label(2, 0, 5), label(3, 5), false},
		{label(2, 0, 5), label(2, 0, 5), true},
		{label(2, 0, 5), label(1, 0, 5), false},
		{label(2, 5), label(2, 0, 5), true},
		{label(2, 0, 5), label(2, 5), false},
		{label(0), label(0), true},
		{label(0), label(15, 31), true},
		{label(15), label(14, 0, 31), false},
		{label(0, 31), label(15), false},
		{label(0, 31), label(15, 30), false},
		{label(3, 1), label(3, 2), false},
		{api.Label{Set: ^uint32(0)}, api.Label{Level: 15, Set: ^uint32(0)}, true},
		{api.Label{Set: ^uint32(0)}, api.Label{Level: 15, Set: ^uint32(0) >> 1}, false},
	} {
		if got := Under(c.a, c.b); got != c.want {
			t.Errorf("Under(%v, %v): %v", c.a, c.b, got)
		}
	}
}

// P3.1: the higher level with the compartments of either, the lower level with those of both.
func TestJoinMeet(t *testing.T) {
	for _, c := range []struct{ a, b, join, meet api.Label }{
		{label(2, 0, 5), label(3, 5, 7), label(3, 0, 5, 7), label(2, 5)},
		{label(3, 0, 5), label(2, 5, 7), label(3, 0, 5, 7), label(2, 5)},
		{label(0, 31), label(15), label(15, 31), label(0)},
		{label(4, 1), label(4, 2), label(4, 1, 2), label(4)},
		{label(4, 1), label(4, 1), label(4, 1), label(4, 1)},
		{label(0), label(0), label(0), label(0)},
		{api.Label{Level: 15, Set: 0xFFFF0000}, api.Label{Level: 1, Set: 0x0FFFFFF0}, api.Label{Level: 15, Set: 0xFFFFFFF0}, api.Label{Level: 1, Set: 0x0FFF0000}},
	} {
		if got := Join(c.a, c.b); got != c.join {
			t.Errorf("Join(%v, %v): %v", c.a, c.b, got)
		}
		if got := Meet(c.a, c.b); got != c.meet {
			t.Errorf("Meet(%v, %v): %v", c.a, c.b, got)
		}
	}
}

// P3.3: each stands under itself, two that stand under each other are the same, and under goes on from one to the next.
func TestUnderIsAnOrder(t *testing.T) {
	all := few()
	for _, a := range all {
		if !Under(a, a) {
			t.Errorf("%v doesn't stand under itself", a)
		}
		for _, b := range all {
			if Under(a, b) && Under(b, a) && a != b {
				t.Errorf("%v and %v stand under each other", a, b)
			}
			for _, c := range all {
				if Under(a, b) && Under(b, c) && !Under(a, c) {
					t.Errorf("%v, %v, %v", a, b, c)
				}
			}
		}
	}
}

// P3.3: what stands above both stands above their join, and what stands below both below their meet, these among them.
func TestJoinIsLowestMeetIsHighest(t *testing.T) {
	all := few()
	for _, a := range all {
		for _, b := range all {
			join, meet := Join(a, b), Meet(a, b)
			if !Under(a, join) || !Under(b, join) || !Under(meet, a) || !Under(meet, b) {
				t.Errorf("%v, %v: join %v, meet %v", a, b, join, meet)
			}
			for _, c := range all {
				if Under(a, c) && Under(b, c) && !Under(join, c) {
					t.Errorf("%v, %v: %v is lower than %v", a, b, c, join)
				}
				if Under(c, a) && Under(c, b) && !Under(c, meet) {
					t.Errorf("%v, %v: %v is higher than %v", a, b, c, meet)
				}
			}
		}
	}
}

// known: labels, with their texts and bytes.
var known = []struct {
	label api.Label
	text  string
	bytes string
}{
	{label(0), "0", "\x00\x00\x00\x00\x00"},
	{label(7), "7", "\x07\x00\x00\x00\x00"},
	{label(10), "10", "\x0a\x00\x00\x00\x00"},
	{label(15), "15", "\x0f\x00\x00\x00\x00"},
	{label(0, 0), "0:0", "\x00\x00\x00\x00\x01"},
	{label(2, 0, 5), "2:0:5", "\x02\x00\x00\x00\x21"},
	{label(2, 5, 0), "2:0:5", "\x02\x00\x00\x00\x21"},
	{label(3, 9, 10, 11), "3:9:10:11", "\x03\x00\x00\x0e\x00"},
	{label(1, 31), "1:31", "\x01\x80\x00\x00\x00"},
	{label(15, 0, 8, 16, 24), "15:0:8:16:24", "\x0f\x01\x01\x01\x01"},
	{label(12, 30, 31), "12:30:31", "\x0c\xc0\x00\x00\x00"},
	{api.Label{Level: 15, Set: ^uint32(0)}, "15:0:1:2:3:4:5:6:7:8:9:10:11:12:13:14:15:16:17:18:19:20:21:22:23:24:25:26:27:28:29:30:31", "\x0f\xff\xff\xff\xff"},
}

// P3.1, P3.2: a label's text and its bytes, and the label of each.
func TestTextAndBytes(t *testing.T) {
	for _, c := range known {
		if got := Text(c.label); got != c.text {
			t.Errorf("Text(%v): %q", c.label, got)
		}
		if got, code := Parse(c.text); got != c.label || code != api.OK {
			t.Errorf("Parse(%q): %v, %d", c.text, got, code)
		}
		if got := Bytes(c.label); got != c.bytes {
			t.Errorf("Bytes(%v): %q", c.label, got)
		}
		i := octet.New(c.bytes)
		if got := Read(i); got != c.label || i.End() != api.OK {
			t.Errorf("Read(%q): %v, %d", c.bytes, got, i.End())
		}
	}
}

// P3.1: levels that are too high have a text and bytes, too.
func TestTextAndBytesTooHigh(t *testing.T) {
	if got := Text(label(255, 3)); got != "255:3" {
		t.Errorf("%q", got)
	}
	if got := Bytes(label(16, 3)); got != "\x10\x00\x00\x00\x08" {
		t.Errorf("%q", got)
	}
}

// P3.2: each level and each compartment alone is told and read.
func TestEachNumber(t *testing.T) {
	for level := range 300 {
		a, code := Parse(strconv.Itoa(level))
		if want := level <= 15; want != (code == api.OK) || want && a != label(uint8(level)) || !want && code != api.ErrRange {
			t.Errorf("level %d: %v, %d", level, a, code)
		}
	}
	for c := range 300 {
		a, code := Parse("3:" + strconv.Itoa(c))
		if want := c <= 31; want != (code == api.OK) || want && a != label(3, c) || !want && code != api.ErrRange {
			t.Errorf("compartment %d: %v, %d", c, a, code)
		}
	}
	for c := range 31 {
		text := "3:" + strconv.Itoa(c) + ":" + strconv.Itoa(c+1)
		if a, code := Parse(text); code != api.OK || a != label(3, c, c+1) {
			t.Errorf("%s: %v, %d", text, a, code)
		}
	}
}

// P3.2: each error.
func TestParseErrors(t *testing.T) {
	many := strings.Repeat("9", 1000)
	for _, c := range []struct {
		text string
		want api.Errno
	}{
		{"", api.ErrShort},
		{"3:", api.ErrShort},
		{"3:5:", api.ErrShort},
		{"3:31:", api.ErrShort},

		{"x", api.ErrForm},
		{":", api.ErrForm},
		{":3", api.ErrForm},
		{" 3", api.ErrForm},
		{"-1", api.ErrForm},
		{"+1", api.ErrForm},
		{"/", api.ErrForm},
		{"\x00", api.ErrForm},
		{"\xff", api.ErrForm},
		{"٣", api.ErrForm},
		{"3::", api.ErrForm},
		{"3::5", api.ErrForm},
		{"3:x", api.ErrForm},
		{"3:-1", api.ErrForm},
		{"3: 5", api.ErrForm},
		{"3:5::", api.ErrForm},

		{"3x", api.ErrForm},
		{"3 ", api.ErrForm},
		{"3;5", api.ErrForm},
		{"3/5", api.ErrForm},
		{"3.5", api.ErrForm},
		{"3\n", api.ErrForm},
		{"3:5x", api.ErrForm},
		{"3:5;7", api.ErrForm},
		{"3:5 ", api.ErrForm},
		{"3:5,7", api.ErrForm},

		{"00", api.ErrForm},
		{"03", api.ErrForm},
		{"03:5", api.ErrForm},
		{"3:00", api.ErrForm},
		{"3:05", api.ErrForm},
		{"3:5:07", api.ErrForm},

		{"16", api.ErrRange},
		{"20", api.ErrRange},
		{"100", api.ErrRange},
		{"255", api.ErrRange},
		{"256", api.ErrRange},
		{"4294967296", api.ErrRange},
		{"18446744073709551616", api.ErrRange},
		{"18446744073709551619", api.ErrRange},
		{many, api.ErrRange},
		{"1" + strings.Repeat("0", 1000), api.ErrRange},
		{"3:32", api.ErrRange},
		{"3:99", api.ErrRange},
		{"3:100", api.ErrRange},
		{"3:5:32", api.ErrRange},
		{"3:4294967296", api.ErrRange},
		{"3:18446744073709551621", api.ErrRange},
		{"3:" + many, api.ErrRange},
		{"3:1" + strings.Repeat("0", 1000), api.ErrRange},

		{"3:5:5", api.ErrForm},
		{"3:0:0", api.ErrForm},
		{"3:31:31", api.ErrForm},
		{"3:5:4", api.ErrForm},
		{"3:1:0", api.ErrForm},
		{"3:31:0", api.ErrForm},
		{"3:1:3:2", api.ErrForm},
		{"3:1:3:1", api.ErrForm},
	} {
		if a, code := Parse(c.text); code != c.want || a != (api.Label{}) {
			t.Errorf("Parse(%q): %v, %d, wanted %d", c.text, a, code, c.want)
		}
	}
}

// P3.2: of several errors the one that is met first; of one number the nought ahead, then its range, then what stands behind.
func TestParseFirstError(t *testing.T) {
	for _, c := range []struct {
		text string
		want api.Errno
	}{
		{"x:", api.ErrForm},
		{"x16", api.ErrForm},
		{":16:", api.ErrForm},
		{"3::32", api.ErrForm},
		{"3x:32", api.ErrForm},
		{"3x:", api.ErrForm},

		{"016", api.ErrForm},
		{"0" + strings.Repeat("9", 1000), api.ErrForm},
		{strings.Repeat("0", 1000), api.ErrForm},
		{"00:", api.ErrForm},
		{"03:32", api.ErrForm},
		{"3:032", api.ErrForm},
		{"3:05:", api.ErrForm},
		{"3:0" + strings.Repeat("9", 1000), api.ErrForm},

		{"16x", api.ErrRange},
		{"16:", api.ErrRange},
		{"16:x", api.ErrRange},
		{"16::", api.ErrRange},
		{"16:05", api.ErrRange},
		{"16:5:5", api.ErrRange},
		{"99999999999999999999x", api.ErrRange},
		{"3:32x", api.ErrRange},
		{"3:32:", api.ErrRange},
		{"3:32:5", api.ErrRange},
		{"3:32:05", api.ErrRange},
		{"3:5:32:x", api.ErrRange},
		{"3:5:32:5", api.ErrRange},

		{"3:5:5:", api.ErrForm},
		{"3:5:5:32", api.ErrForm},
		{"3:5:4:99", api.ErrForm},
		{"3:5:4:", api.ErrForm},
	} {
		if a, code := Parse(c.text); code != c.want || a != (api.Label{}) {
			t.Errorf("Parse(%q): %v, %d, wanted %d", c.text, a, code, c.want)
		}
	}
}

// P3.2: a text that is parsed is the text of what was parsed.
func TestParseIsOfTextsAlone(t *testing.T) {
	marks := "013:x"
	texts := []string{""}
	for n := 0; n < len(texts); n++ {
		s := texts[n]
		if a, code := Parse(s); code == api.OK && Text(a) != s {
			t.Errorf("%q is parsed as %q", s, Text(a))
		}
		if len(s) == 6 {
			continue
		}
		for at := range len(marks) {
			texts = append(texts, s+marks[at:at+1])
		}
	}
}

// P3.2: Read's errors, and that a level's comes behind all its bytes.
func TestReadErrors(t *testing.T) {
	for _, c := range []struct {
		bytes string
		want  api.Errno
	}{
		{"", api.ErrShort},
		{"\x02", api.ErrShort},
		{"\x02\x00\x00\x01", api.ErrShort},
		{"\x10", api.ErrShort},
		{"\xff\x00\x00\x01", api.ErrShort},
		{"\x10\x00\x00\x00\x01", api.ErrRange},
		{"\xff\x00\x00\x00\x01", api.ErrRange},
		{"\x10\x00\x00\x00\x01rest", api.ErrRange},
	} {
		i := octet.New(c.bytes)
		if a := Read(i); a != (api.Label{}) || i.Err() != c.want || i.Left() != 0 {
			t.Errorf("%q: %v, %d, %d left, wanted %d", c.bytes, a, i.Err(), i.Left(), c.want)
		}
	}
}

// P3.2: a label is read where it stands, and what stands behind it can be read next.
func TestReadGoesOn(t *testing.T) {
	i := octet.New("z" + Bytes(label(2, 0, 5)) + Bytes(label(15, 31)) + "y")
	i.Raw(1)
	if a := Read(i); a != label(2, 0, 5) || i.Left() != 6 {
		t.Errorf("%v, %d left", a, i.Left())
	}
	if a := Read(i); a != label(15, 31) || i.Raw(1) != "y" || i.End() != api.OK {
		t.Errorf("%v, %d", a, i.End())
	}
}

// P3.2: behind an error, and of nil, the zero label; the first error stays.
func TestReadBehindAnError(t *testing.T) {
	i := octet.New(Bytes(label(2, 0, 5)))
	i.Fail(api.ErrKind)
	if a := Read(i); a != (api.Label{}) || i.Err() != api.ErrKind {
		t.Errorf("%v, %d", a, i.Err())
	}
	if a := Read(nil); a != (api.Label{}) {
		t.Errorf("%v", a)
	}
}
