package policy

import (
	"reflect"
	"strconv"
	"strings"
	"testing"

	"stairwell/api"
)

// printed: the text of right.
const printed = `work 4
give 2
label low 0 500 1
label mid 1:0 600 7
label side 1:5 0 1099511627776
label high 2:0:1 65536 9
slot low
slot mid
slot low
slot side
slot high
grant high low 3
grant mid side 0
grant side mid 16
`

// least: the lines of a policy that may be.
const least = "work 4\ngive 1\nlabel low 0 512 1\nslot low\n"

// parsed: the policy of a text that is told to be right.
func parsed(t *testing.T, s string) Policy {
	t.Helper()
	p, line, code := Parse(s)
	if line != 0 || code != api.OK {
		t.Fatalf("%q: %d, %d", s, line, code)
	}
	return p
}

// P5.3, P5.4: what is printed, and that it is read as it was.
func TestPrint(t *testing.T) {
	if s, code := Print(right()); s != printed || code != api.OK {
		t.Errorf("%q, %d", s, code)
	}
	for name, p := range map[string]Policy{
		"right": right(),
		"many":  many(16),
		"empty grants, greatest Base": {
			Work: 16, Give: 16, Places: []Place{{"0", api.Label{Level: 15, Set: ^uint32(0)}, 0, 1<<64 - 1}},
			Slots: make([]int, 32), Grants: []Grant{},
		},
	} {
		s, code := Print(p)
		if code != api.OK {
			t.Fatalf("%s: %d", name, code)
		}
		got := parsed(t, s)
		if len(p.Grants) == 0 {
			got.Grants, p.Grants = nil, nil
		}
		if !reflect.DeepEqual(got, p) {
			t.Errorf("%s: %v", name, got)
		}
		if again, _ := Print(got); again != s {
			t.Errorf("%s: %q", name, again)
		}
	}
}

// P5.3: of a policy that may not be Print tells Check's error, and no text.
func TestPrintWrong(t *testing.T) {
	for _, w := range wrongs {
		p := right()
		w.change(&p)
		if s, code := Print(p); s != "" || code != w.want {
			t.Errorf("%s: %q, %d, wanted %d", w.name, s, code, w.want)
		}
	}
}

// P5.3, and the document's example.
func TestParseLeast(t *testing.T) {
	want := Policy{Work: 4, Give: 1, Places: []Place{{"low", label(0), 512, 1}}, Slots: []int{0}}
	if got := parsed(t, least); !reflect.DeepEqual(got, want) {
		t.Errorf("%v", got)
	}
}

// P5.3: the same policy in other lines.
func TestParseLayout(t *testing.T) {
	for name, s := range map[string]string{
		"as printed":             printed,
		"no last line feed":      strings.TrimSuffix(printed, "\n"),
		"lines without words":    "\n\n" + strings.ReplaceAll(printed, "\n", "\n\n  \n"),
		"blanks between":         strings.ReplaceAll(printed, " ", "   "),
		"blanks ahead":           "  " + strings.ReplaceAll(printed, "\n", "\n "),
		"blanks behind":          strings.ReplaceAll(printed, "\n", "  \n"),
		"last line of blanks":    printed + "   ",
		"remarks":                "#\n# work 9\n#work 9\n  # a\n" + strings.ReplaceAll(printed, "\n", "\n#slot \x00\xff\t\r low\n"),
		"last line a remark":     printed + "# none",
		"Work again":             "work 9\nwork 99\n" + printed,
		"Give again":             "give 1048576\n" + printed,
		"Work, Give behind":      strings.TrimPrefix(printed, "work 4\ngive 2\n") + "give 2\nwork 4\n",
		"Work, Give between":     "work 1\n" + strings.Replace(strings.Replace(printed, "work 4\n", "", 1), "slot mid\n", "slot mid\nwork 3\nwork 4\n", 1),
		"slots between":          "give 2\nlabel low 0 500 1\nslot low\nlabel mid 1:0 600 7\nslot mid\nslot low\nlabel side 1:5 0 1099511627776\nslot side\nlabel high 2:0:1 65536 9\ngrant high low 3\ngrant mid side 0\nslot high\ngrant side mid 16\nwork 4\n",
		"grants ahead of slots":  "work 4\ngive 2\nlabel low 0 500 1\nlabel mid 1:0 600 7\nlabel side 1:5 0 1099511627776\nlabel high 2:0:1 65536 9\ngrant high low 3\ngrant mid side 0\ngrant side mid 16\nslot low\nslot mid\nslot low\nslot side\nslot high",
		"remark with right form": "work 4\n" + strings.Replace(printed, "work 4", "#work 4", 1),
	} {
		if got := parsed(t, s); !reflect.DeepEqual(got, right()) {
			t.Errorf("%s: %v", name, got)
		}
	}
}

// bad is a text, and what Parse answers.
type bad struct {
	text string
	line int
	want api.Errno
}

// refuse: a test fails, if a text isn't refused so, without anything of its policy.
func refuse(t *testing.T, l ...bad) {
	t.Helper()
	for _, b := range l {
		p, line, code := Parse(b.text)
		if line != b.line || code != b.want {
			t.Errorf("%q: %d, %d, wanted %d, %d", b.text, line, code, b.line, b.want)
		}
		if p.Work != 0 || p.Give != 0 || len(p.Places) != 0 || len(p.Slots) != 0 || len(p.Grants) != 0 {
			t.Errorf("%q: %v", b.text, p)
		}
	}
}

// P5.3: a first word that is none, or another number of words.
func TestParseWords(t *testing.T) {
	for _, one := range []string{
		"work", "work 4 4", "work 4 #", "give", "give 1 1",
		"label", "label low", "label low 0", "label low 0 512", "label low 0 512 1 1",
		"slot", "slot low low", "grant", "grant low", "grant low low", "grant low low 1 1",
		"Work 4", "works 4", "wor 4", "work4", "slots low", "labels a 1 1 1", "grants a b 1", "begin 80", "4 work", "4",
		"work\t4", "\twork 4", "slot\tlow", "\x00", "\xff", "\r", "\t", "\v", "é", "-#", "work\u00a04", "\u00a0", "\u2028",
	} {
		refuse(t,
			bad{one, 1, api.ErrForm},
			bad{least + one, 5, api.ErrForm},
			bad{least + one + "\n" + least, 5, api.ErrForm},
		)
	}
	refuse(t,
		bad{"work 4\r\ngive 1\r\n", 1, api.ErrForm},
		bad{"label low 0 512 1\nslot low\t\n", 2, api.ErrNone},
	)
}

// P5.3: numbers that are none, or too great.
func TestParseNumbers(t *testing.T) {
	for _, s := range []string{
		"a", "-1", "+1", "1a", "a1", "1.0", "1_0", "0x1", "1,0", "00", "01", "007", "00000000000000000000000000001", "0099999999999999999999999",
		"99999999999999999999999x", "\x00", "1\x00", "1\t", "\xff", "1é", "٣", "/", ":", "-", "1#",
	} {
		refuse(t,
			bad{"work " + s, 1, api.ErrForm},
			bad{"\ngive " + s, 2, api.ErrForm},
			bad{"label low 0 " + s + " 1\n", 1, api.ErrForm},
			bad{"label low 0 512 " + s + "\n", 1, api.ErrForm},
			bad{"label a 0 1 1\nlabel b 1 1 1\ngrant b a " + s + "\n", 3, api.ErrForm},
		)
	}
	for _, s := range []string{"1048577", "9999999", "4294967297", "18446744073709551615", "18446744073709551616", "18446744073709551620", "100000000000000000000000000000000000000001"} {
		refuse(t,
			bad{"work " + s, 1, api.ErrRange},
			bad{"\ngive " + s, 2, api.ErrRange},
			bad{"label low 0 " + s + " 1\n", 1, api.ErrRange},
			bad{"label a 0 1 1\nlabel b 1 1 1\ngrant b a " + s + "\n", 3, api.ErrRange},
		)
	}
	for _, s := range []string{"18446744073709551616", "18446744073709551625", "99999999999999999999", "100000000000000000000000000000000000000001"} {
		refuse(t, bad{"label low 0 512 " + s + "\n", 1, api.ErrRange})
	}
	for _, base := range []uint64{1, 10, 1 << 20, 1<<20 + 1, 1 << 63, 1<<64 - 1} {
		p := parsed(t, strings.Replace(least, "512 1\n", "512 "+strconv.FormatUint(base, 10)+"\n", 1))
		if p.Places[0].Base != base {
			t.Errorf("%d: %v", base, p)
		}
	}
	for _, n := range []int{0, 1, 9, 10, 99, 65536} {
		p := parsed(t, strings.Replace(least, "512", strconv.Itoa(n), 1))
		if p.Places[0].Bytes != n {
			t.Errorf("%d: %v", n, p)
		}
	}
}

// P5.3: a number up to 2^20 that a policy may not have is told by Check, without a line.
func TestParseNumbersOfCheck(t *testing.T) {
	grants := least + "label high 1 1 1\nslot high\ngrant high low "
	for _, s := range []string{"17", "65537", "1048576"} {
		refuse(t,
			bad{strings.Replace(least, "work 4", "work "+s, 1), 0, api.ErrRange},
			bad{strings.Replace(least, "give 1", "give "+s, 1), 0, api.ErrRange},
			bad{grants + s, 0, api.ErrRange},
		)
	}
	refuse(t,
		bad{strings.Replace(least, "work 4", "work 0", 1), 0, api.ErrRange},
		bad{strings.Replace(least, "give 1", "give 0", 1), 0, api.ErrRange},
		bad{strings.Replace(least, "512 1\n", "512 0\n", 1), 0, api.ErrRange},
		bad{strings.Replace(least, "512 1\n", "1048576 1\n", 1), 0, api.ErrRange},
		bad{strings.Replace(least, "512 1\n", "65537 1\n", 1), 0, api.ErrRange},
	)
	if p := parsed(t, grants+"16"); p.Grants[0] != (Grant{1, 0, 16}) {
		t.Errorf("%v", p)
	}
	if p := parsed(t, grants+"0"); p.Grants[0] != (Grant{1, 0, 0}) {
		t.Errorf("%v", p)
	}
}

// P5.3: layer 3's errors of a label's text.
func TestParseLabels(t *testing.T) {
	for s, want := range map[string]api.Errno{
		"1:": api.ErrShort, "1:3:": api.ErrShort,
		"a": api.ErrForm, "-1": api.ErrForm, ":": api.ErrForm, "01": api.ErrForm, "1:03": api.ErrForm, "1,3": api.ErrForm, "1:3:2": api.ErrForm, "1:3:3": api.ErrForm, "1\t": api.ErrForm,
		"16": api.ErrRange, "99999999999999999999999": api.ErrRange, "1:32": api.ErrRange, "16:a": api.ErrRange,
	} {
		refuse(t,
			bad{"label low " + s + " 512 1", 1, want},
			bad{"# one\n\n" + least + "label high " + s + " 512 1\nslot high\n", 7, want},
		)
	}
	if p := parsed(t, strings.Replace(least, "low 0", "low 15:0:31", 1)); p.Places[0].Label != label(15, 0, 31) {
		t.Errorf("%v", p)
	}
}

// P5.3: names that no line ahead told.
func TestParseNames(t *testing.T) {
	refuse(t,
		bad{"slot low\nlabel low 0 512 1\nwork 4\ngive 1\n", 1, api.ErrNone},
		bad{least + "slot lo\n", 5, api.ErrNone},
		bad{least + "slot low2", 5, api.ErrNone},
		bad{least + "slot Low", 5, api.ErrNone},
		bad{least + "slot 0", 5, api.ErrNone},
		bad{least + "slot #", 5, api.ErrNone},
		bad{least + "grant low high 1\nlabel high 1 1 1\n", 5, api.ErrNone},
		bad{least + "grant high low 1\nlabel high 1 1 1\n", 5, api.ErrNone},
		bad{least + "label high 1 1 1\nslot high\nslot mid\n", 7, api.ErrNone},
		bad{"#label low 0 512 1\nslot low\n", 2, api.ErrNone},
	)
}

// P5.3: a label's line's name is looked at by Check alone: other lines may name it, the first of several.
func TestParseNamesOfCheck(t *testing.T) {
	refuse(t,
		bad{"work 4\ngive 1\nlabel Low 0 512 1\nslot Low\n", 0, api.ErrForm},
		bad{"work 4\ngive 1\nlabel # 0 512 1\nslot #\n", 0, api.ErrForm},
		bad{"work 4\ngive 1\nlabel low\t 0 512 1\nslot low\t\n", 0, api.ErrForm},
		bad{"work 4\ngive 1\nlabel a-name-of-17-byte 0 512 1\n", 0, api.ErrLong},
		bad{least + "label low 1 512 1\nslot low\ngrant low low 1\n", 0, api.ErrThere},
		bad{least + "label high 0 512 1\nslot high\n", 0, api.ErrThere},
		bad{least + "label low 1 512 1\nslot no\n", 6, api.ErrNone},
	)
}

// P5.3: behind the last line Check's errors, in its order, without a line.
func TestParseCheck(t *testing.T) {
	refuse(t,
		bad{"", 0, api.ErrRange},
		bad{"\n", 0, api.ErrRange},
		bad{"# work 4\n", 0, api.ErrRange},
		bad{"work 4\n", 0, api.ErrRange},
		bad{"work 4\ngive 1\n", 0, api.ErrEmpty},
		bad{"work 4\ngive 1\nlabel low 0 512 1\n", 0, api.ErrEmpty},
		bad{strings.TrimPrefix(least, "work 4\n"), 0, api.ErrRange},
		bad{least + "label high 1 512 1\n", 0, api.ErrEmpty},
		bad{least + strings.Repeat("slot low\n", 32), 0, api.ErrMany},
		bad{least + "grant low low 1\n", 0, api.ErrFlow},
		bad{least + "label high 1 1 1\nslot high\ngrant low high 1\n", 0, api.ErrFlow},
		bad{least + "label high 1 1 1\nslot high\n" + strings.Repeat("grant high low 1\n", 2), 0, api.ErrThere},
		bad{least + "label high 1 1 1\nslot high\n" + strings.Repeat("grant high low 1\n", 9), 0, api.ErrMany},
	)
	s := "work 1\ngive 1\n"
	for at := range 17 {
		s += "label p" + strconv.Itoa(at) + " 1:" + strconv.Itoa(at) + " 1 1\nslot p" + strconv.Itoa(at) + "\n"
		if at == 15 {
			parsed(t, s)
		}
	}
	refuse(t, bad{s, 0, api.ErrMany})
}

// P5.3: of two errors of a line the number of words comes first, then those of its words, in order; of two lines that
// ahead; and a line's ahead of Check's.
func TestParseOrder(t *testing.T) {
	refuse(t,
		bad{"label low 16: 0 0 0\n", 1, api.ErrForm},
		bad{"grant no none a a\n", 1, api.ErrForm},
		bad{"slot no no\n", 1, api.ErrForm},
		bad{"work 9999999 a\n", 1, api.ErrForm},

		bad{"label low 1: a a\n", 1, api.ErrShort},
		bad{"label low 16 a a\n", 1, api.ErrRange},
		bad{"label low a 9999999 1\n", 1, api.ErrForm},
		bad{"label low 0 a 18446744073709551616\n", 1, api.ErrForm},
		bad{"label low 0 9999999 a\n", 1, api.ErrRange},
		bad{"label Low 0 512 a\n", 1, api.ErrForm},

		bad{least + "grant no none a\n", 5, api.ErrNone},
		bad{least + "grant low none a\n", 5, api.ErrNone},
		bad{least + "grant none low 9999999\n", 5, api.ErrNone},
		bad{least + "grant low low a\n", 5, api.ErrForm},
		bad{least + "grant low low 9999999\n", 5, api.ErrRange},

		bad{"work 9999999\nwork a\n", 1, api.ErrRange},
		bad{"work a\nwork 9999999\n", 1, api.ErrForm},
		bad{"work a\nwork 4\n" + least, 1, api.ErrForm},
		bad{"slot low\nno\n", 1, api.ErrNone},
		bad{"work 0\nlabel Low 0 0 0\nslot no\n", 3, api.ErrNone},
		bad{strings.Repeat("label low 0 1 1\n", 20) + "give a\n", 21, api.ErrForm},
	)
}

// P5.3: lines that don't count have their numbers all the same.
func TestParseLineNumbers(t *testing.T) {
	for lines := range 40 {
		ahead := strings.Repeat("\n", lines)
		refuse(t,
			bad{ahead + "no", lines + 1, api.ErrForm},
			bad{strings.Repeat("# a\n", lines) + "no\n" + least, lines + 1, api.ErrForm},
			bad{least + strings.Repeat("   \n", lines) + "slot no\n", lines + 5, api.ErrNone},
			bad{strings.Repeat("work 9\n", lines) + "work a\n", lines + 1, api.ErrForm},
		)
		parsed(t, ahead+least+ahead)
	}
}

// Of Memory: what is done to an answer changes no later one.
func TestParseIsNew(t *testing.T) {
	p := parsed(t, printed)
	p.Places[0].Name, p.Slots[0], p.Grants[0].Budget = "other", 9, 9
	if got := parsed(t, printed); !reflect.DeepEqual(got, right()) {
		t.Errorf("%v", got)
	}
}

// P1: any bytes are told of, and a text that is told to be right is printed and read as it was.
func TestParseAnyBytes(t *testing.T) {
	for at := range len(printed) {
		for b := range 256 {
			one := string([]byte{byte(b)})
			for _, s := range []string{printed[:at] + one + printed[at+1:], printed[:at] + one + printed[at:], printed[:at]} {
				p, line, code := Parse(s)
				if code != api.OK {
					refuse(t, bad{s, line, code})
					continue
				}
				if again, code := Print(p); line != 0 || code != api.OK || !reflect.DeepEqual(parsed(t, again), p) {
					t.Errorf("%q: %d, %q, %d", s, line, again, code)
				}
			}
		}
	}
}
