package script

import (
	"fmt"
	"reflect"
	"slices"
	"strconv"
	"strings"
	"testing"

	"stairwell/api"
	"stairwell/broker"
	"stairwell/frame"
	"stairwell/method"
	"stairwell/policy"
)

// example is the document's.
const example = `work 4
give 1
label low 0 500 1
slot low
begin 80
connect low
step 2
`

// parsed: the parts of a text that is told to be a script.
func parsed(t *testing.T, text string) (policy.Policy, int, []Command) {
	t.Helper()
	p, blocks, l, line, code := Parse(text)
	if line != 0 || code != api.OK {
		t.Fatalf("%q: %d, %d", text, line, code)
	}
	holds(t, text)
	return p, blocks, l
}

// bad is a text, and what Parse and Run answer.
type bad struct {
	text string
	line int
	want api.Errno
}

// refuse: a test fails, if a text isn't refused so, with nothing beside it.
func refuse(t *testing.T, l ...bad) {
	t.Helper()
	for _, b := range l {
		p, blocks, commands, line, code := Parse(b.text)
		if line != b.line || code != b.want {
			t.Errorf("%q: %d, %d, wanted %d, %d", b.text, line, code, b.line, b.want)
		}
		if !reflect.ValueOf(p).IsZero() || blocks != 0 || len(commands) != 0 {
			t.Errorf("%q: %+v, %d, %+v", b.text, p, blocks, commands)
		}
		told, line, code := Run(b.text)
		if line != b.line || code != b.want || len(told) != 0 {
			t.Errorf("%q: told %q, %d, %d, wanted %d, %d", b.text, told, line, code, b.line, b.want)
		}
		holds(t, b.text)
	}
}

// refuseLine: a test fails, if a command's line isn't refused so: as the first one, behind others, ahead of others, and of other wrong ones.
func refuseLine(t *testing.T, want api.Errno, lines ...string) {
	t.Helper()
	for _, one := range lines {
		refuse(t,
			bad{ahead + one, behind + 1, want},
			bad{ahead + one + "\n", behind + 1, want},
			bad{ahead + "connect low\nstep\n\n# a\n   \n" + one + "\nout low\n", behind + 6, want},
			bad{ahead + one + "\nno\nconnect no\nstep 1048577\nstep 5000\n", behind + 1, want},
			bad{ahead + "step 4096\n" + one + "\nstep 1\n", behind + 2, want},
		)
	}
}

// P31.1, and the document's example.
func TestExample(t *testing.T) {
	p, blocks, l := parsed(t, example)
	want := policy.Policy{Work: 4, Give: 1, Places: []policy.Place{{Name: "low", Bytes: 500, Base: 1}}, Slots: []int{0}}
	if !samePolicy(p, want) || blocks != 80 {
		t.Errorf("%+v, %d", p, blocks)
	}
	if !slices.Equal(l, []Command{{6, false, 1, broker.Event{Kind: broker.Connect}}, {7, false, 2, broker.Event{Kind: broker.Step}}}) {
		t.Errorf("%+v", l)
	}
}

// chunkOf: the bytes of a method's frame.
func chunkOf(t *testing.T, m method.Method) string {
	t.Helper()
	f, code := m.Frame()
	s, e := frame.Bytes(f)
	if code != api.OK || e != api.OK {
		t.Fatalf("%+v: %d, %d", m, code, e)
	}
	return s
}

// P31.1: each of the commands.
func TestCommands(t *testing.T) {
	opens := chunkOf(t, method.Method{Channel: 7, Kind: method.Open})
	for text, want := range map[string]Command{
		"connect low":                         {Times: 1, Event: broker.Event{Kind: broker.Connect, Place: 0}},
		"connect high":                        {Times: 1, Event: broker.Event{Kind: broker.Connect, Place: 1}},
		"say low 1 7 open":                    {Times: 1, Event: broker.Event{Kind: broker.Send, Client: 1, Chunk: opens}},
		"say high 0 7 open":                   {Times: 1, Event: broker.Event{Kind: broker.Send, Place: 1, Chunk: opens}},
		"say low 18446744073709551615 7 open": {Times: 1, Event: broker.Event{Kind: broker.Send, Client: 1<<64 - 1, Chunk: opens}},
		"gone low 0":                          {Times: 1, Event: broker.Event{Kind: broker.Gone}},
		"gone high 12":                        {Times: 1, Event: broker.Event{Kind: broker.Gone, Place: 1, Client: 12}},
		"gone high 18446744073709551615":      {Times: 1, Event: broker.Event{Kind: broker.Gone, Place: 1, Client: 1<<64 - 1}},
		"step":                                {Times: 1, Event: broker.Event{Kind: broker.Step}},
		"step 0":                              {Times: 0, Event: broker.Event{Kind: broker.Step}},
		"step 1":                              {Times: 1, Event: broker.Event{Kind: broker.Step}},
		"step 2":                              {Times: 2, Event: broker.Event{Kind: broker.Step}},
		"step 4096":                           {Times: 4096, Event: broker.Event{Kind: broker.Step}},
		"arm low 0 0":                         {Times: 1, Event: broker.Event{Kind: broker.Arm}},
		"arm high 3 64":                       {Times: 1, Event: broker.Event{Kind: broker.Arm, Place: 1, A: 3, B: 64}},
		"arm low 1048576 1048576":             {Times: 1, Event: broker.Event{Kind: broker.Arm, A: 1 << 20, B: 1 << 20}},
		"crash low 0":                         {Times: 1, Event: broker.Event{Kind: broker.Crash}},
		"crash high 1048576":                  {Times: 1, Event: broker.Event{Kind: broker.Crash, Place: 1, A: 1 << 20}},
		"out low":                             {Out: true},
		"out high":                            {Out: true, Event: broker.Event{Place: 1}},
	} {
		for _, lines := range []int{0, 1, 5} {
			_, blocks, l := parsed(t, ahead+strings.Repeat("\n", lines)+text)
			want.Line = behind + 1 + lines
			if blocks != 80 || !slices.Equal(l, []Command{want}) {
				t.Errorf("%q: %d, %+v, wanted %+v", text, blocks, l, want)
			}
		}
	}
}

// P31.1: each METHOD, with what its kind tells; a Head stays empty; a text that is empty is a point.
func TestMethods(t *testing.T) {
	kinds := map[uint8]bool{}
	for text, m := range map[string]method.Method{
		"hello 1":                              {Kind: method.Hello, N: 1},
		"hello 0":                              {Kind: method.Hello},
		"hello 18446744073709551615":           {Kind: method.Hello, N: 1<<64 - 1},
		"open":                                 {Kind: method.Open},
		"close":                                {Kind: method.Close},
		"makeshop a . 1":                       {Kind: method.MakeShop, Name: "a", N: 1},
		"makeshop r low 4":                     {Kind: method.MakeShop, Name: "r", Other: "low", N: 4},
		"makeshop r no-place 300":              {Kind: method.MakeShop, Name: "r", Other: "no-place", N: 300},
		"dropshop a-name-of-16-byt":            {Kind: method.DropShop, Name: "a-name-of-16-byt"},
		"makequeue q . 9 8":                    {Kind: method.MakeQueue, Name: "q", N: 9, M: 8},
		"makequeue q d 0 0":                    {Kind: method.MakeQueue, Name: "q", Other: "d"},
		"dropqueue q":                          {Kind: method.DropQueue, Name: "q"},
		"bind a q k.*.# yes":                   {Kind: method.Bind, Name: "a", Other: "q", Key: "k.*.#", Yes: true},
		"bind a q . no":                        {Kind: method.Bind, Name: "a", Other: "q"},
		"unbind a q k no":                      {Kind: method.Unbind, Name: "a", Other: "q", Key: "k"},
		"unbind a q # yes":                     {Kind: method.Unbind, Name: "a", Other: "q", Key: "#", Yes: true},
		"lift a high k yes":                    {Kind: method.Lift, Name: "a", Other: "high", Key: "k", Yes: true},
		"unlift a high . no":                   {Kind: method.Unlift, Name: "a", Other: "high"},
		"put a k.l body 5":                     {Kind: method.Put, Name: "a", Key: "k.l", Body: "body", M: 5},
		"put a . . 0":                          {Kind: method.Put, Name: "a"},
		"put a . .. 0":                         {Kind: method.Put, Name: "a", Body: ".."},
		"put a k # 0":                          {Kind: method.Put, Name: "a", Key: "k", Body: "#"},
		"put a k \xff\x00\t\r\u00a0 1":         {Kind: method.Put, Name: "a", Key: "k", Body: "\xff\x00\t\r\u00a0", M: 1},
		"put a . yes 18446744073709551615":     {Kind: method.Put, Name: "a", Body: "yes", M: 1<<64 - 1},
		"credit 3":                             {Kind: method.Credit, N: 3},
		"take q 255":                           {Kind: method.Take, Name: "q", N: 255},
		"leave 255":                            {Kind: method.Leave, N: 255},
		"get q":                                {Kind: method.Get, Name: "q"},
		"settle 5 2 yes":                       {Kind: method.Settle, N: 5, M: 2, Yes: true},
		"settle 18446744073709551615 9 no":     {Kind: method.Settle, N: 1<<64 - 1, M: 9},
		"sure":                                 {Kind: method.Sure},
		"draft":                                {Kind: method.Draft},
		"commit":                               {Kind: method.Commit},
		"undo":                                 {Kind: method.Undo},
		"put a . " + longBody + " 0":           {Kind: method.Put, Name: "a", Body: longBody},
		"put a " + longKey + " x 0":            {Kind: method.Put, Name: "a", Key: longKey, Body: "x"},
		"bind a q " + longKey + " no":          {Kind: method.Bind, Name: "a", Other: "q", Key: longKey},
		"makequeue q a-name-of-16-byt 1 0":     {Kind: method.MakeQueue, Name: "q", Other: "a-name-of-16-byt", N: 1},
		"makequeue - _ 1 18446744073709551615": {Kind: method.MakeQueue, Name: "-", Other: "_", N: 1, M: 1<<64 - 1},
	} {
		kinds[m.Kind] = true
		for _, channel := range []int{0, 1, 4, 9, 10, 255} {
			m.Channel = uint8(channel)
			_, _, l := parsed(t, ahead+"say high 5 "+strconv.Itoa(channel)+" "+text)
			want := Command{behind + 1, false, 1, broker.Event{Kind: broker.Send, Place: 1, Client: 5, Chunk: chunkOf(t, m)}}
			if !slices.Equal(l, []Command{want}) {
				t.Errorf("%q: %+v, wanted %+v", text, l, want)
			}
		}
	}
	if len(kinds) != method.Undo+1 {
		t.Errorf("%d kinds", len(kinds))
	}
}

// longKey, longBody: the longest ones.
var (
	longKey  = strings.Repeat("k", api.MaxKey)
	longBody = strings.Repeat("b", api.MaxBody)
)

// P31.1: the same script in other lines: blanks ahead, behind, between, lines that don't count, a last line without a line feed.
func TestLayout(t *testing.T) {
	text := ahead + "connect low\nsay low 1 0 hello 1\nstep 3\nout low\n"
	p, blocks, l := parsed(t, text)
	for name, s := range map[string]string{
		"no last line feed":   strings.TrimSuffix(text, "\n"),
		"blanks between":      strings.ReplaceAll(text, " ", "    "),
		"blanks ahead":        "   " + strings.ReplaceAll(text, "\n", "\n  "),
		"blanks behind":       strings.ReplaceAll(text, "\n", "   \n"),
		"last line of blanks": text + "     ",
		"last line a remark":  text + "# begin 9",
		"lines behind":        text + "\n\n#\n   \n  # x\n#out low\n",
	} {
		q, n, more := parsed(t, s)
		if !samePolicy(p, q) || n != blocks || !slices.Equal(l, more) {
			t.Errorf("%s: %+v, %d, %+v", name, q, n, more)
		}
	}
	for name, between := range map[string]string{
		"lines without words": "\n\n", "blanks": "\n   \n", "remarks": "\n# a remark\n", "remarks like commands": "\n#step 9999\n", "begin": "\n #begin 5\n", "any bytes": "\n#\x00\xff\t\r \"\n",
	} {
		q, n, more := parsed(t, strings.ReplaceAll(text, "\n", between))
		for at := range more {
			if want := 2*(l[at].Line-1) + 1; more[at].Line != want {
				t.Errorf("%s: line %d, wanted %d", name, more[at].Line, want)
			}
			more[at].Line = l[at].Line
		}
		if !samePolicy(p, q) || n != blocks || !slices.Equal(l, more) {
			t.Errorf("%s: %+v, %d, %+v", name, q, n, more)
		}
	}
}

// P31.1: nothing but a blank stands between words, nothing but a line feed between lines.
func TestOtherBlanks(t *testing.T) {
	for _, b := range []string{"\t", "\r", "\v", "\f", "\x00", "\u00a0", "\u2003", "\u0085", "\xa0", "\xff", ",", "\x1f", "!"} {
		refuseLine(t, api.ErrForm, "connect"+b+"low", b+"connect low", "step"+b, "step "+b, "say low 1 0 hello 1"+b, "say low 1 0 open"+b)
		refuseLine(t, api.ErrNone, "connect low"+b, "out "+b+"high", "crash high"+b+" 0")
		refuse(t, bad{ahead + "connect low" + b + "step\n", behind + 1, api.ErrNone})
		refuse(t, bad{strings.Replace(ahead, "begin 80", "begin"+b+"80", 1), 0, api.ErrShort})
		refuse(t, bad{strings.Replace(ahead, "begin 80", b+"begin 80", 1), 0, api.ErrShort})
		refuse(t, bad{strings.Replace(ahead, "begin 80", "begin 80"+b, 1), behind, api.ErrForm})
	}
	refuse(t, bad{strings.ReplaceAll(ahead, "\n", "\r\n"), 1, api.ErrForm})
}

// P31.1: the line with begin.
func TestBegin(t *testing.T) {
	for s, want := range map[string]int{"0": 0, "1": 1, "9": 9, "80": 80, "4097": 4097, "1048576": 1 << 20} {
		for _, line := range []string{"begin " + s, "   begin    " + s + "  ", "begin " + s + "\n", "begin " + s + "\nstep"} {
			if _, blocks, _ := parsed(t, strings.Replace(ahead, "begin 80\n", line, 1)); blocks != want {
				t.Errorf("%q: %d", line, blocks)
			}
		}
	}
	for line, want := range map[string]api.Errno{
		"begin": api.ErrForm, "begin 80 1": api.ErrForm, "begin 80 #": api.ErrForm, "begin low 80": api.ErrForm, "begin 1048577 1": api.ErrForm, "begin low": api.ErrForm,
		"begin 080": api.ErrForm, "begin -1": api.ErrForm, "begin 1048577": api.ErrRange, "begin 18446744073709551616": api.ErrRange, "begin 8x": api.ErrForm, "begin .": api.ErrForm, "begin #": api.ErrForm,
	} {
		refuse(t, bad{strings.Replace(ahead, "begin 80", line, 1) + "no\nstep 5000\n", behind, want})
		refuse(t, bad{strings.Replace(ahead, "begin 80", "\n\n"+line, 1), behind + 2, want})
	}
}

// P31.1: without a line whose first word is begin: ErrShort, whatever stands there.
func TestNoBegin(t *testing.T) {
	for _, s := range []string{
		"", "\n", " ", "# begin 80", "#begin 80", "beginn 80", "begi 80", "Begin 80", "BEGIN", "a begin 80", "label begin 0 500 1", "begin80", "no", "work 99999999999999999999",
		strings.ReplaceAll(ahead, "begin 80", ""), strings.ReplaceAll(ahead, "begin", "# begin"), strings.ReplaceAll(example, "begin 80", "slot begin"), strings.Repeat("x", 65536),
	} {
		refuse(t, bad{s, 0, api.ErrShort})
	}
}

// P31.1: the word begin within a policy's lines, where it isn't the first one; and more than one line with it, of which the first counts.
func TestMoreBegins(t *testing.T) {
	p, blocks, l := parsed(t, "work 4\ngive 1\n# begin 1\n#begin 2\nlabel begin 0 500 1\n slot  begin\n begin  80\nconnect begin\nsay begin 1 1 get begin\n# begin\nout begin")
	if len(p.Places) != 1 || p.Places[0].Name != "begin" || blocks != 80 || len(l) != 3 || l[0].Line != 8 || l[1].Line != 9 || l[2].Line != 11 {
		t.Errorf("%+v, %d, %+v", p, blocks, l)
	}
	refuseLine(t, api.ErrForm, "begin 80", "begin", "begin 80 1", "begin low")
	refuse(t,
		bad{"begin 80\n" + ahead, 0, api.ErrRange},
		bad{"begin\nbegin 80\n", 0, api.ErrRange},
		bad{"work 4\nbegin 80\n" + ahead, 0, api.ErrRange},
		bad{"work 4\nlabel begin\nbegin 80\n", 2, api.ErrForm},
	)
}

// P31.1: of the policy's text layer 5's line and error; of what stands from begin on nothing counts for that.
func TestPolicy(t *testing.T) {
	refuse(t,
		bad{"begin 80", 0, api.ErrRange},
		bad{"\n#\nbegin 80", 0, api.ErrRange},
		bad{"no\nbegin 80", 1, api.ErrForm},
		bad{"\n\nslot low\nbegin 80", 3, api.ErrNone},
		bad{strings.Replace(ahead, "low 0", "low 16", 1), 3, api.ErrRange},
		bad{strings.Replace(ahead, "low 0", "low 1:", 1), 3, api.ErrShort},
		bad{strings.Replace(ahead, "work 4", "work 04", 1), 1, api.ErrForm},
		bad{strings.Replace(ahead, "work 4", "work 17", 1), 0, api.ErrRange},
		bad{strings.Replace(ahead, "label high", "label low", 1), 6, api.ErrNone},
		bad{strings.Replace(ahead, "slot high\n", "", 1), 0, api.ErrEmpty},
		bad{strings.Replace(ahead, "grant high low", "grant low high", 1), 0, api.ErrFlow},
		bad{strings.Replace(ahead, "begin 80", "connect low\nbegin 80", 1), 9, api.ErrForm},
		bad{strings.Replace(ahead, "begin 80", "step\nbegin 80", 1), 9, api.ErrForm},
		bad{strings.Replace(ahead, "slot high\n", "", 1) + "slot high\n", 0, api.ErrEmpty},
	)
	for _, line := range []string{"work 4", "give 1", "label mid 1:0 5 5", "slot low", "grant high low 1"} {
		refuseLine(t, api.ErrForm, line)
	}
}

// P31.1: ErrLong ahead of ErrShort ahead of the policy's ahead of a line's.
func TestErrorsInOrder(t *testing.T) {
	tail := strings.Repeat("\n", 65536)
	refuse(t,
		bad{tail + "\n", 0, api.ErrLong},
		bad{"no\nbegin\nno\n" + tail, 0, api.ErrLong},
		bad{"no\nconnect no\n", 0, api.ErrShort},
		bad{"work 0\nno\nbegin 0 0\nno\n", 2, api.ErrForm},
		bad{"work 4\nbegin 0 0\nno\n", 0, api.ErrRange},
		bad{ahead[:len(ahead)-1] + " 0\nconnect no\n", behind, api.ErrForm},
		bad{ahead + "connect no\nno\n", behind + 1, api.ErrNone},
	)
}

// P31.1: at most 65536 bytes.
func TestLong(t *testing.T) {
	for _, fill := range []string{"\n", " ", "#", "\n# remark"} {
		for _, n := range []int{65535, 65536} {
			s := ahead + "connect low\n#"
			s += strings.Repeat(fill, n)[:n-len(s)]
			if _, _, l := parsed(t, s); len(s) != n || len(l) != 1 {
				t.Errorf("%d bytes: %+v", len(s), l)
			}
			if told := runs(t, s); !slices.Equal(told, []string{"client 1"}) {
				t.Errorf("%d bytes: %q", len(s), told)
			}
		}
		for _, n := range []int{65537, 65538, 100000, 1 << 20} {
			s := ahead + "connect low\n#"
			s += strings.Repeat(fill, n)[:n-len(s)]
			refuse(t, bad{s, 0, api.ErrLong})
		}
	}
}

// P31.1: at most 1000 commands; of the one behind them ErrMany, ahead of what is wrong with it.
func TestManyCommands(t *testing.T) {
	for _, one := range []string{"connect low\n", "step 0\n", "out high\n", "crash low 0\n", "say low 1 1 open\n\n# a\n"} {
		all := strings.Repeat(one, 1000)
		if _, _, l := parsed(t, ahead+all); len(l) != 1000 {
			t.Errorf("%q: %d commands", one, len(l))
		}
		if _, _, l := parsed(t, ahead+all+"\n   \n# connect no\n#\n"); len(l) != 1000 {
			t.Errorf("%q: %d commands", one, len(l))
		}
		line := behind + strings.Count(all, "\n") + 1
		for _, more := range []string{one, "no", "connect", "connect no", "step 1048577", "step 4097", "step x", "begin 80", "say low 1 256 open", "say low 1 1 put . . . 0", "gone low 00", ".", "work 4"} {
			refuse(t,
				bad{ahead + all + more, line, api.ErrMany},
				bad{ahead + all + "#\n\n" + more + "\nno\n", line + 2, api.ErrMany},
			)
		}
		refuse(t,
			bad{ahead + strings.Repeat(one, 999) + "no\n" + one, behind + strings.Count(all, "\n")/1000*999 + 1, api.ErrForm},
			bad{ahead + strings.Repeat(one, 1500), line, api.ErrMany},
		)
	}
}

// P31.1: all steps together are at most 4096; of the step by which they are more ErrMany, behind what is wrong with it.
func TestManySteps(t *testing.T) {
	for _, s := range []string{
		"step 4096", "step 4095\nstep", "step\nstep 4095", "step 4096\nstep 0\nstep 0", "step 2048\nconnect low\nstep 2048\nout low", strings.Repeat("step 8\n", 512), strings.Repeat("step\n", 96) + "step 4000",
		"step 4096\n# step\n#step 5", "arm low 1048576 5\nstep 4096\ncrash low 1048576",
	} {
		parsed(t, ahead+s)
		s = strings.TrimSuffix(s, "\n") + "\n"
		line := behind + strings.Count(s, "\n") + 1
		for _, more := range []string{"step", "step 1", "step 4096", "step 4097", "step 1048576"} {
			refuse(t,
				bad{ahead + s + more, line, api.ErrMany},
				bad{ahead + s + "step 0\n\n" + more + "\nno\n", line + 2, api.ErrMany},
			)
		}
		refuse(t,
			bad{ahead + s + "step 1048577", line, api.ErrRange},
			bad{ahead + s + "step 18446744073709551616", line, api.ErrRange},
			bad{ahead + s + "step 01", line, api.ErrForm},
			bad{ahead + s + "step 1 1", line, api.ErrForm},
			bad{ahead + s + "steps", line, api.ErrForm},
		)
	}
	refuse(t,
		bad{ahead + "step 4097", behind + 1, api.ErrMany},
		bad{ahead + "step 1048576\nno", behind + 1, api.ErrMany},
		bad{ahead + "step 4000\nstep 97\nno", behind + 2, api.ErrMany},
		bad{ahead + strings.Repeat("step 5\n", 900), behind + 820, api.ErrMany},
	)
}

// P31.1: a first word that is none of these, or another number of words than it asks for; ahead of all that is wrong with the words.
func TestWords(t *testing.T) {
	refuseLine(t, api.ErrForm,
		"no", "Connect low", "connects low", "connec low", "STEP", "low", "1", ".", "-", "open", "hello 1", "say#", "-#", "tick 2", "client 1", "ok", "error 10", "\x00", "\xff", "é",
		"connect", "connect low low", "connect low 1", "connect no no", "connect low #",
		"say", "say low", "say low 1", "say low 1 1", "say no x y", "say no",
		"gone", "gone low", "gone low 1 1", "gone no 01 1", "gone no",
		"step 1 1", "step low 1", "step 1 #", "step 1048577 1",
		"arm", "arm low", "arm low 1", "arm low 1 1 1", "arm no", "arm no 01", "arm no 1 1 1",
		"crash", "crash low", "crash low 1 1", "crash no", "crash no 1 1",
		"out", "out low low", "out no 1",
	)
}

// P31.1: of METHOD a word that is none, or another number of words behind it than its kind asks for.
func TestMethodWords(t *testing.T) {
	for _, s := range []string{"no", "Hello 1", "hell 1", "hello1", "puts a . . 0", ".", "0", "1", "connect", "begin", "yes", "-", "\xff", "#open", "welcome low", "done"} {
		refuseLine(t, api.ErrForm, "say low 1 1 "+s)
	}
	for _, one := range plainKinds {
		word, letters, _ := strings.Cut(one, " ")
		for n := range 8 {
			if n == len(letters) {
				continue
			}
			for _, more := range []string{" a", " 1", " no", " .", " 00", " 99999999999999999999"} {
				refuseLine(t, api.ErrForm, "say low 1 1 "+word+strings.Repeat(more, n))
			}
		}
	}
}

// P31.1: names of places that the policy hasn't.
func TestPlaces(t *testing.T) {
	for _, place := range []string{"no", "lo", "low2", "Low", "LOW", "hig", "0", "1", "-1", ".", "#", "begin", "lowhigh", "\xff", "a-name-of-17-byte"} {
		refuseLine(t, api.ErrNone, "connect "+place, "say "+place+" 1 0 hello 1", "gone "+place+" 1", "arm "+place+" 1 1", "crash "+place+" 1", "out "+place)
	}
}

// P31.1: numbers that are none, or too great; the greatest of each, and one more.
func TestNumbers(t *testing.T) {
	small := []string{"begin %s", "step %s", "arm low %s 0", "arm low 0 %s", "crash low %s"}
	great := []string{
		"gone low %s", "say low %s 0 open", "say low 1 0 hello %s", "say low 1 1 makeshop a . %s", "say low 1 1 makequeue q . %s 0", "say low 1 1 makequeue q . 0 %s", "say low 1 1 put a . . %s",
		"say low 1 1 credit %s", "say low 1 1 take q %s", "say low 1 1 leave %s", "say low 1 1 settle %s 0 no", "say low 1 1 settle 0 %s no",
	}
	channel := []string{"say low 1 %s open", "say low 1 %s hello 1", "say low 1 %s put a k x 0"}
	text := func(form, s string) string {
		if strings.HasPrefix(form, "begin") {
			return strings.Replace(ahead, "\nbegin 80\n", "\n\n"+fmt.Sprintf(form, s), 1)
		}
		return ahead + fmt.Sprintf(form, s)
	}
	for _, s := range []string{
		"a", "-1", "+1", "-0", "+0", "1a", "a1", "1.0", ".", ".1", "1.", "1_0", "0x1", "0b1", "1e3", "1,0", "00", "01", "007", "0000000000000000000000000000000001", "00", "099999999999999999999999",
		"99999999999999999999999x", "\x00", "1\x00", "1\t", "\xff", "1é", "٣", "/", ":", "-", "#", "1#", "yes", "low",
	} {
		for _, form := range slices.Concat(small, great, channel) {
			refuse(t, bad{text(form, s), behind + 1, api.ErrForm})
		}
	}
	for _, s := range []string{"18446744073709551616", "18446744073709551625", "99999999999999999999", "100000000000000000000000000000000000000000000000001"} {
		for _, form := range slices.Concat(small, great, channel) {
			refuse(t, bad{text(form, s), behind + 1, api.ErrRange})
		}
	}
	for _, s := range []string{"1048577", "2097152", "4294967296", "4295000000", "9223372036854775808", "18446744073709551615"} {
		for _, form := range small {
			refuse(t, bad{text(form, s), behind + 1, api.ErrRange})
		}
		for _, form := range great {
			parsed(t, text(form, s))
		}
	}
	for _, s := range []string{"256", "257", "300", "511", "512", "1000", "65536", "1048576", "4294967297", "18446744073709551615"} {
		for _, form := range channel {
			refuse(t, bad{text(form, s), behind + 1, api.ErrRange})
		}
		for _, form := range great {
			parsed(t, text(form, s))
		}
	}
	for _, s := range []string{"0", "1", "9", "10", "99", "100", "199", "200", "249", "250", "254", "255"} {
		for _, form := range slices.Concat(small, great, channel) {
			parsed(t, text(form, s))
		}
	}
	for _, form := range slices.Concat(small, great) {
		if form != "step %s" {
			parsed(t, text(form, "1048576"))
		}
	}
}

// P31.1: another word than yes and no.
func TestYes(t *testing.T) {
	for _, s := range []string{"Yes", "YES", "y", "ye", "yess", "No", "n", "noo", "1", "0", "true", "false", ".", "#", "\xff"} {
		refuseLine(t, api.ErrForm, "say low 1 1 bind a q . "+s, "say low 1 1 unbind a q . "+s, "say low 1 1 lift a q . "+s, "say low 1 1 unlift a q . "+s, "say low 1 1 settle 1 1 "+s)
	}
}

// P31.1: layer 11's Check's of the method.
func TestChecks(t *testing.T) {
	long := "a-name-of-17-byte"
	for _, s := range []string{"makeshop %s . 1", "dropshop %s", "makequeue %s . 1 1", "dropqueue %s", "bind %s q . no", "unbind %s q . no", "lift %s q . no", "unlift %s q . no", "put %s . . 0", "take %s 1", "get %s",
		"bind a %s . no", "unbind a %s . no", "lift a %s . no", "unlift a %s . no"} {
		refuseLine(t, api.ErrEmpty, "say low 1 1 "+fmt.Sprintf(s, "."))
		refuseLine(t, api.ErrForm, "say low 1 1 "+fmt.Sprintf(s, "A"), "say low 1 1 "+fmt.Sprintf(s, ".."), "say low 1 1 "+fmt.Sprintf(s, "a.b"))
		refuseLine(t, api.ErrLong, "say low 1 1 "+fmt.Sprintf(s, long))
	}
	refuseLine(t, api.ErrForm, "say low 1 1 makeshop a A 1", "say low 1 1 makequeue q # 1 1", "say low 1 1 put a A . 0", "say low 1 1 put a .. . 0", "say low 1 1 put a # . 0", "say low 1 1 put a k.* . 0",
		"say low 1 1 bind a q k# no", "say low 1 1 lift a q k..l no", "say low 1 1 unbind a q .k no", "say low 1 1 unlift a q K no")
	refuseLine(t, api.ErrLong, "say low 1 1 makeshop a "+long+" 1", "say low 1 1 makequeue q "+long+" 1 1", "say low 1 1 put a "+longKey+"k . 0", "say low 1 1 bind a q "+longKey+"k no",
		"say low 1 1 put a . "+longBody+"b 0")
}
