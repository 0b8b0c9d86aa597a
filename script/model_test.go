package script

import (
	"fmt"
	"math/big"
	"math/rand"
	"reflect"
	"regexp"
	"slices"
	"strconv"
	"strings"
	"testing"

	"stairwell/api"
	"stairwell/broker"
	"stairwell/frame"
	"stairwell/method"
	"stairwell/policy"
	"stairwell/reply"
)

// ahead: a policy of two places, in 8 lines, and the line with begin.
const ahead = `work 4
give 2
label low 0 2000 1
label high 1 2000 7
slot low
slot high
grant high low 3
# two places
begin 80
`

// behind: how many lines ahead has, so that the first line behind it has the number behind + 1.
const behind = 9

// plain is a script as the document's words have it.
type plain struct {
	p        policy.Policy
	blocks   int
	begin    int
	commands []Command
}

// plainForms: of each first word, what the words behind it are, a letter each: p a place, n a number, s a small one, c a channel, m a METHOD
// with all that stands behind it.
var plainForms = map[string][]string{
	"begin": {"s"}, "connect": {"p"}, "say": {"pncm"}, "gone": {"pn"}, "step": {"", "s"}, "arm": {"pss"}, "crash": {"ps"}, "out": {"p"},
}

// plainKinds: the METHODs, in the order of their kinds, each with what the words behind it are: N Name, O Other, K Key, B Body, n, m, y.
var plainKinds = []string{
	"hello n", "open", "close", "makeshop NOn", "dropshop N", "makequeue NOnm", "dropqueue N", "bind NOKy", "unbind NOKy", "lift NOKy", "unlift NOKy",
	"put NKBm", "credit n", "take Nn", "leave n", "get N", "settle nmy", "sure", "draft", "commit", "undo",
}

// decimals: a number in digits, without noughts ahead.
var decimals = regexp.MustCompile(`\A(0|[1-9][0-9]*)\z`)

// plainNumber: the number of a word.
func plainNumber(word, most string) (uint64, api.Errno) {
	if !decimals.MatchString(word) {
		return 0, api.ErrForm
	}
	n, _ := new(big.Int).SetString(word, 10)
	limit, _ := new(big.Int).SetString(most, 10)
	if n.Cmp(limit) > 0 {
		return 0, api.ErrRange
	}
	return n.Uint64(), api.OK
}

// plainSplit: a line's words.
func plainSplit(s string) []string {
	return slices.DeleteFunc(strings.Split(s, " "), func(word string) bool { return word == "" })
}

// greatest: numbers in digits.
const (
	greatest = "18446744073709551615"
	million  = "1048576"
)

// plainParse: the script of a text.
func plainParse(text string) (plain, int, api.Errno) {
	if len(text) > 65536 {
		return plain{}, 0, api.ErrLong
	}
	var x plain
	steps := 0
	for at, one := range strings.Split(text, "\n") {
		words := plainSplit(one)
		if x.begin == 0 && (len(words) == 0 || words[0] != "begin") || len(words) == 0 || words[0][0] == '#' {
			continue
		}
		if x.begin == 0 {
			var line int
			var code api.Errno
			x.begin = at + 1
			x.p, line, code = policy.Parse(strings.Join(strings.Split(text, "\n")[:at], "\n"))
			if code != api.OK {
				return plain{}, line, code
			}
			n, code := plainBegin(words)
			if code != api.OK {
				return plain{}, x.begin, code
			}
			x.blocks = n
			continue
		}
		if len(x.commands) == 1000 {
			return plain{}, at + 1, api.ErrMany
		}
		c, code := plainCommand(x.p, words)
		if code != api.OK {
			return plain{}, at + 1, code
		}
		if words[0] == "step" {
			steps += c.Times
		}
		if steps > 4096 {
			return plain{}, at + 1, api.ErrMany
		}
		c.Line = at + 1
		x.commands = append(x.commands, c)
	}
	if x.begin == 0 {
		return plain{}, 0, api.ErrShort
	}
	return x, 0, api.OK
}

// plainBegin: the blocks of the line with begin.
func plainBegin(words []string) (int, api.Errno) {
	if len(words) != 2 {
		return 0, api.ErrForm
	}
	n, code := plainNumber(words[1], million)
	return int(n), code
}

// plainCommand: the command of a line's words.
func plainCommand(p policy.Policy, words []string) (Command, api.Errno) {
	at := slices.IndexFunc(plainForms[words[0]], func(f string) bool {
		return len(f) == len(words)-1 || strings.HasSuffix(f, "m") && len(f) < len(words)
	})
	if at < 0 || words[0] == "begin" {
		return Command{}, api.ErrForm
	}
	c := Command{Times: 1}
	c.Event.Kind = map[string]uint8{"connect": 0, "say": 1, "gone": 2, "step": 3, "arm": 4, "crash": 5}[words[0]]
	var small []int
	var channel uint8
	for i, letter := range plainForms[words[0]][at] {
		word := words[i+1]
		var n uint64
		code := api.OK
		switch letter {
		case 'p':
			if c.Event.Place = p.Find(word); c.Event.Place < 0 {
				code = api.ErrNone
			}
		case 'n':
			c.Event.Client, code = plainNumber(word, greatest)
		case 's':
			n, code = plainNumber(word, million)
			small = append(small, int(n))
		case 'c':
			n, code = plainNumber(word, "255")
			channel = uint8(n)
		case 'm':
			c.Event.Chunk, code = plainChunk(channel, words[i+1:])
		}
		if code != api.OK {
			return Command{}, code
		}
	}
	switch {
	case words[0] == "out":
		c.Out, c.Times = true, 0
	case words[0] == "step" && len(small) > 0:
		c.Times = small[0]
	case words[0] == "arm":
		c.Event.A, c.Event.B = small[0], small[1]
	case words[0] == "crash":
		c.Event.A = small[0]
	}
	return c, api.OK
}

// plainChunk: the bytes of a METHOD.
func plainChunk(channel uint8, words []string) (string, api.Errno) {
	for kind, one := range plainKinds {
		word, letters, _ := strings.Cut(one, " ")
		if word != words[0] {
			continue
		}
		if len(letters) != len(words)-1 {
			return "", api.ErrForm
		}
		m := method.Method{Channel: channel, Kind: uint8(kind)}
		for i, letter := range letters {
			code := api.OK
			word := words[i+1]
			text := word
			if word == "." {
				text = ""
			}
			switch letter {
			case 'N':
				m.Name = text
			case 'O':
				m.Other = text
			case 'K':
				m.Key = text
			case 'B':
				m.Body = text
			case 'n':
				m.N, code = plainNumber(word, greatest)
			case 'm':
				m.M, code = plainNumber(word, greatest)
			case 'y':
				m.Yes = word == "yes"
				if word != "yes" && word != "no" {
					code = api.ErrForm
				}
			}
			if code != api.OK {
				return "", code
			}
		}
		if code := m.Check(); code != api.OK {
			return "", code
		}
		f, _ := m.Frame()
		s, _ := frame.Bytes(f)
		return s, api.OK
	}
	return "", api.ErrForm
}

// plainTell: the line of a reply.
func plainTell(client uint64, r reply.Reply) string {
	s := fmt.Sprintf("%d %d %s", client, r.Channel, strings.Fields("welcome done refused sent nothing kept lost bye")[r.Kind])
	text := func(t string) string {
		if t == "" {
			return " ."
		}
		return " " + t
	}
	is := " no"
	if r.Yes {
		is = " yes"
	}
	switch r.Kind {
	case 0:
		s += text(r.Name)
	case 2, 5, 7:
		s += fmt.Sprint(" ", r.N)
	case 3:
		s += fmt.Sprint(" ", r.N, " ", r.M) + is + text(r.Mail.Shop) + text(r.Mail.Key) + text(r.Mail.Body)
	case 6:
		s += fmt.Sprint(" ", r.N, " ", r.M)
	}
	return s
}

// plainRun: what a script tells.
func plainRun(t *testing.T, text string) ([]string, int, api.Errno) {
	t.Helper()
	x, line, code := plainParse(text)
	if code != api.OK {
		return nil, line, code
	}
	b, code := broker.New(x.p, x.blocks)
	if code != api.OK {
		return nil, x.begin, code
	}
	var told []string
	for _, c := range x.commands {
		if c.Out {
			for _, o := range b.Out(c.Event.Place) {
				for s := o.Bytes; s != ""; {
					f, n, code := frame.Parse(s)
					r, e := reply.Of(f)
					if code != api.OK || e != api.OK {
						t.Fatalf("released: %q: %d, %d", s, code, e)
					}
					told = append(told, plainTell(o.Client, r))
					s = s[n:]
				}
			}
			continue
		}
		var n uint64
		for range c.Times {
			n, code = b.Do(c.Event)
		}
		switch {
		case c.Event.Kind == broker.Step:
			told = append(told, "tick "+strconv.FormatUint(b.Tick(), 10))
		case code != api.OK:
			told = append(told, "error "+strconv.Itoa(int(code)))
		case c.Event.Kind == broker.Connect:
			told = append(told, "client "+strconv.FormatUint(n, 10))
		default:
			told = append(told, "ok")
		}
	}
	return told, 0, api.OK
}

// samePolicy: are two the same?
func samePolicy(a, b policy.Policy) bool {
	return a.Work == b.Work && a.Give == b.Give && slices.Equal(a.Places, b.Places) && slices.Equal(a.Slots, b.Slots) && slices.Equal(a.Grants, b.Grants)
}

// holds: Parse answers what the document's words ask for; the error.
func holds(t *testing.T, text string) api.Errno {
	t.Helper()
	p, blocks, l, line, code := Parse(text)
	x, at, wanted := plainParse(text)
	if line != at || code != wanted {
		t.Fatalf("%q: %d, %d, wanted %d, %d", text, line, code, at, wanted)
	}
	if !samePolicy(p, x.p) || blocks != x.blocks || !slices.Equal(l, x.commands) {
		t.Fatalf("%q: %+v, %d, %+v, wanted %+v", text, p, blocks, l, x)
	}
	if code != api.OK && (!reflect.ValueOf(p).IsZero() || blocks != 0 || len(l) != 0) {
		t.Fatalf("%q: beside an error %+v, %d, %+v", text, p, blocks, l)
	}
	return code
}

// runs: Run tells what the document's words ask for; that.
func runs(t *testing.T, text string) []string {
	t.Helper()
	l, line, code := Run(text)
	told, at, wanted := plainRun(t, text)
	if line != at || code != wanted || !slices.Equal(l, told) {
		t.Fatalf("%q: %q, %d, %d, wanted %q, %d, %d", text, l, line, code, told, at, wanted)
	}
	return l
}

// one: one of some, by chance.
func one[T any](r *rand.Rand, l ...T) T { return l[r.Intn(len(l))] }

// thrown: a command's line by chance, of the places of ahead.
func thrown(r *rand.Rand) string {
	place := one(r, "low", "high")
	client := strconv.Itoa(1 + r.Intn(3))
	switch n := r.Intn(100); {
	case n < 2:
		return "connect " + place
	case n < 3:
		who := place + " " + client
		return one(r, "gone "+who, "gone "+who, "say "+who+" 0 hello 1", "say "+who+" 255 open", "say "+who+" 1 close")
	case n < 13:
		return one(r, "step", "step", "step 0", "step 1", "step 2", "step 4")
	case n < 23:
		return "out " + place
	}
	return fmt.Sprint("say ", place, " ", one(r, "1 1 ", "1 1 ", "2 1 ", "2 2 "), thrownMethod(r))
}

// thrownMethod: a METHOD and its words by chance.
func thrownMethod(r *rand.Rand) string {
	if r.Intn(3) == 0 {
		return fmt.Sprint("put ", one(r, "a", "a", "a", "r", "d"), " ", one(r, ".", "k", "k.l"), " ", one(r, ".", "x", "yy"), " ", one(r, 0, 0, 0, 3))
	}
	return one(r, "makeshop r low 4", "makeshop d . 0", "dropshop d", "makequeue s d 1 4", "dropqueue s",
		"bind a s . no", "bind d s k yes", "unbind d s k yes", "lift a high . no", "unlift a high . no",
		"credit 2", "credit 16", "take q 7", "take s 0", "leave 7", "get q", "get q", "get s", "settle 1 0 yes", "settle 2 1 no", "settle 3 2 no", "settle 9 0 yes",
		"sure", "draft", "commit", "commit", "undo")
}

// thrownPower: the lines of a loss of power by chance, behind which there are clients again.
func thrownPower(r *rand.Rand) []string {
	place := one(r, "low", "high")
	var l []string
	if r.Intn(2) == 0 {
		l = append(l, fmt.Sprint("arm ", place, " ", r.Intn(3), " ", one(r, 0, 40, 1000)), thrown(r), "step 2", thrown(r), "step 2", thrown(r))
	}
	return append(append(l, fmt.Sprint("crash ", place, " ", one(r, 0, 40, 1000)), thrown(r), "step 2", "out "+place), begun(place)...)
}

// begun: the lines by which two clients begin at a place where there is none.
func begun(place string) []string {
	l := []string{"connect " + place, "connect " + place}
	for _, said := range []string{"1 0 hello 1", "1 1 open", "1 1 makeshop a . 1", "1 1 makequeue q . 9 0", "1 1 bind a q . no", "2 0 hello 1", "2 1 open", "2 2 open", "2 2 sure"} {
		l = append(l, "say "+place+" "+said)
	}
	return append(l, "step 6")
}

// rowOf: the lines of a long script by chance, behind ahead.
func rowOf(r *rand.Rand, times int) []string {
	l := append(begun("low"), begun("high")...)
	l = append(l, "say low 1 1 lift a high . no")
	for range times {
		if l = append(l, thrown(r)); r.Intn(60) == 0 {
			l = append(l, thrownPower(r)...)
		}
	}
	return l
}
