package script

import (
	"math"
	"slices"
	"strconv"
	"strings"

	"stairwell/api"
	"stairwell/broker"
	"stairwell/frame"
	"stairwell/method"
	"stairwell/policy"
)

const (
	blank       = ' '
	remark      = "#" // ahead of what doesn't count
	empty       = "." // what stands for a text without bytes
	small       = 1 << 20
	mostChannel = 255

	// The lines' first words.
	wordBegin   = "begin"
	wordConnect = "connect"
	wordSay     = "say"
	wordGone    = "gone"
	wordStep    = "step"
	wordArm     = "arm"
	wordCrash   = "crash"
	wordOut     = "out"

	wordYes = "yes"
	wordNo  = "no"
)

// split: a line's words.
func split(one string) []string {
	return strings.FieldsFunc(one, func(r rune) bool { return r == blank })
}

// form is a command's first word, and how many words it has, at least and at most.
type form struct {
	word        string
	least, most int
}

// forms: of all commands.
func forms() []form {
	return []form{
		{wordConnect, 2, 2},
		{wordSay, 5, math.MaxInt}, // how many, the METHOD's kind tells
		{wordGone, 3, 3},
		{wordStep, 1, 2},
		{wordArm, 4, 4},
		{wordCrash, 3, 3},
		{wordOut, 2, 2},
	}
}

// formed: are the words of a line those of a command, as far as the first one, and how many they are, can tell?
func formed(words []string) bool {
	return slices.ContainsFunc(forms(), func(f form) bool {
		return f.word == words[0] && f.least <= len(words) && len(words) <= f.most
	})
}

// part is what one of the words behind a METHOD tells.
type part int

// The parts, in the order in which they stand.
const (
	name part = iota
	other
	key
	body
	first  // N
	second // M
	yes
)

// saying is a METHOD's word, its kind, and what the words behind it tell.
type saying struct {
	word  string
	kind  uint8
	tells []part
}

// sayings: of all kinds.
func sayings() []saying {
	return []saying{
		{"hello", method.Hello, []part{first}},
		{"open", method.Open, nil},
		{"close", method.Close, nil},
		{"makeshop", method.MakeShop, []part{name, other, first}},
		{"dropshop", method.DropShop, []part{name}},
		{"makequeue", method.MakeQueue, []part{name, other, first, second}},
		{"dropqueue", method.DropQueue, []part{name}},
		{"bind", method.Bind, []part{name, other, key, yes}},
		{"unbind", method.Unbind, []part{name, other, key, yes}},
		{"lift", method.Lift, []part{name, other, key, yes}},
		{"unlift", method.Unlift, []part{name, other, key, yes}},
		{"put", method.Put, []part{name, key, body, second}},
		{"credit", method.Credit, []part{first}},
		{"take", method.Take, []part{name, first}},
		{"leave", method.Leave, []part{first}},
		{"get", method.Get, []part{name}},
		{"settle", method.Settle, []part{first, second, yes}},
		{"sure", method.Sure, nil},
		{"draft", method.Draft, nil},
		{"commit", method.Commit, nil},
		{"undo", method.Undo, nil},
	}
}

// reader is the words of a line that aren't read yet, and the first error of those that are.
type reader struct {
	policy policy.Policy
	words  []string
	code   api.Errno
}

// word: the next one.
func (r *reader) word() string {
	s := r.words[0]
	r.words = r.words[1:]
	return s
}

// fail: the error is that, if there is none yet.
func (r *reader) fail(code api.Errno) {
	if r.code == api.OK {
		r.code = code
	}
}

// number: the one of at most so much of the next word.
func (r *reader) number(most uint64) uint64 {
	n, code := number(r.word(), most)
	r.fail(code)
	return n
}

// small: the number of the next word.
func (r *reader) small() int { return int(r.number(small)) }

// place: the one of which the next word is the name.
func (r *reader) place() int {
	at := r.policy.Find(r.word())
	if at < 0 {
		r.fail(api.ErrNone)
	}
	return at
}

// text: the one of the next word.
func (r *reader) text() string {
	if s := r.word(); s != empty {
		return s
	}
	return ""
}

// yes: does the next word say so?
func (r *reader) yes() bool {
	s := r.word()
	if s != wordYes && s != wordNo {
		r.fail(api.ErrForm)
	}
	return s == wordYes
}

// command: the one of a line, of its first word and those behind it.
func (r *reader) command(word string) Command {
	c := Command{Times: 1}
	e := &c.Event
	if word == wordStep {
		e.Kind = broker.Step
		if len(r.words) > 0 {
			c.Times = r.small()
		}
		return c
	}
	e.Place = r.place()
	switch word {
	case wordConnect:
		e.Kind = broker.Connect
	case wordSay:
		e.Kind = broker.Send
		e.Client = r.number(math.MaxUint64)
		e.Chunk = r.chunk()
	case wordGone:
		e.Kind = broker.Gone
		e.Client = r.number(math.MaxUint64)
	case wordArm:
		e.Kind = broker.Arm
		e.A = r.small()
		e.B = r.small()
	case wordCrash:
		e.Kind = broker.Crash
		e.A = r.small()
	case wordOut:
		c.Out, c.Times = true, 0
	}
	return c
}

// chunk: the bytes of the method that the last words of a line tell.
func (r *reader) chunk() string {
	channel := uint8(r.number(mostChannel))
	f, code := r.method(channel).Frame()
	r.fail(code)
	s, _ := frame.Bytes(f) // no error: the longest method is shorter than the longest frame
	return s
}

// method: the one that the last words of a line tell.
func (r *reader) method(channel uint8) method.Method {
	word := r.word()
	l := sayings()
	at := slices.IndexFunc(l, func(one saying) bool { return one.word == word })
	if at < 0 || len(r.words) != len(l[at].tells) {
		r.fail(api.ErrForm)
		return method.Method{}
	}
	m := method.Method{Channel: channel, Kind: l[at].kind}
	for _, one := range l[at].tells {
		m = r.tell(m, one)
	}
	return m
}

// tell: the method with what the next word tells.
func (r *reader) tell(m method.Method, one part) method.Method {
	switch one {
	case name:
		m.Name = r.text()
	case other:
		m.Other = r.text()
	case key:
		m.Key = r.text()
	case body:
		m.Body = r.text()
	case first:
		m.N = r.number(math.MaxUint64)
	case second:
		m.M = r.number(math.MaxUint64)
	case yes:
		m.Yes = r.yes()
	}
	return m
}

// number: the one of at most so much of a text.
func number(s string, most uint64) (uint64, api.Errno) {
	if !digits(s) || len(s) > 1 && s[0] == '0' {
		return 0, api.ErrForm
	}
	n, err := strconv.ParseUint(s, 10, 64)
	if err != nil || n > most {
		return 0, api.ErrRange
	}
	return n, api.OK
}

// digits: has a text nothing else? (ParseUint doesn't tell: where a number is too great it looks at no byte behind.)
func digits(s string) bool {
	for at := range len(s) {
		if s[at] < '0' || '9' < s[at] {
			return false
		}
	}
	return s != ""
}
