package script

import (
	"math/rand"
	"slices"
	"strings"
	"testing"

	"stairwell/api"
)

// spoiled is a word that stands in the place of another one: its error, and whether that is told by layer 11's Check, which comes behind all
// others of the line.
type spoiled struct {
	word  string
	want  api.Errno
	check bool
}

// spot is a word of a line, and what may stand wrongly in its place.
type spot struct {
	word  string
	wrong []spoiled
}

// at: a word and what may stand wrongly in its place.
func at(word string, wrong ...spoiled) spot { return spot{word, wrong} }

// The spots of lines.
var (
	placeSpot   = at("low", spoiled{"no", api.ErrNone, false})
	numberSpot  = at("1", spoiled{"01", api.ErrForm, false}, spoiled{"18446744073709551616", api.ErrRange, false})
	smallSpot   = at("1", spoiled{"x", api.ErrForm, false}, spoiled{"1048577", api.ErrRange, false})
	channelSpot = at("1", spoiled{"00", api.ErrForm, false}, spoiled{"256", api.ErrRange, false})
	nameSpot    = at("a", spoiled{".", api.ErrEmpty, true}, spoiled{"A", api.ErrForm, true}, spoiled{"a-name-of-17-byte", api.ErrLong, true})
	otherSpot   = at("b", spoiled{"B", api.ErrForm, true}, spoiled{"a-name-of-17-byte", api.ErrLong, true})
	keySpot     = at("k", spoiled{"K", api.ErrForm, true}, spoiled{longKey + "k", api.ErrLong, true})
	bodySpot    = at("x", spoiled{longBody + "b", api.ErrLong, true})
	yesSpot     = at("yes", spoiled{"1", api.ErrForm, false})
)

// lineSpots: the lines of commands.
func lineSpots() [][]spot {
	said := func(word string, behind ...spot) []spot {
		return append([]spot{at("say"), placeSpot, numberSpot, channelSpot, at(word, spoiled{"no", api.ErrForm, false})}, behind...)
	}
	return [][]spot{
		{at("connect"), placeSpot}, {at("out"), placeSpot},
		{at("gone"), placeSpot, numberSpot},
		{at("arm"), placeSpot, smallSpot, smallSpot},
		{at("crash"), placeSpot, smallSpot},
		said("hello", numberSpot), said("open"), said("commit"),
		said("makeshop", nameSpot, otherSpot, numberSpot), said("dropshop", nameSpot),
		said("makequeue", nameSpot, otherSpot, numberSpot, numberSpot),
		said("bind", nameSpot, otherSpot, keySpot, yesSpot), said("unlift", nameSpot, otherSpot, keySpot, yesSpot),
		said("put", nameSpot, keySpot, bodySpot, numberSpot),
		said("take", nameSpot, numberSpot), said("settle", numberSpot, numberSpot, yesSpot),
	}
}

// P31.1: of two words of a line that are wrong the first one's error is told, Check's behind all others; a wrong number of words ahead of both,
// behind METHOD ahead of what stands behind that.
func TestTwoWrongWords(t *testing.T) {
	for _, spots := range lineSpots() {
		var words []string
		for _, x := range spots {
			words = append(words, x.word)
		}
		parsed(t, ahead+strings.Join(words, " "))
		for i, x := range spots {
			for _, a := range x.wrong {
				one := slices.Clone(words)
				one[i] = a.word
				refuse(t, bad{ahead + strings.Join(one, " "), behind + 1, a.want})
				more := a.want
				if words[0] != "say" || i > 4 {
					more = api.ErrForm
				}
				refuse(t, bad{ahead + strings.Join(one, " ") + " 1", behind + 1, more})
				for j := i + 1; j < len(spots); j++ {
					for _, b := range spots[j].wrong {
						want := a.want
						if a.check && !b.check {
							want = b.want
						}
						two := slices.Clone(one)
						two[j] = b.word
						refuse(t, bad{ahead + strings.Join(two, " "), behind + 1, want})
					}
				}
			}
		}
	}
}

// P31.1: of METHOD Check's errors come in Check's order.
func TestTwoChecks(t *testing.T) {
	refuseLine(t, api.ErrForm, "say low 1 1 bind A . . no", "say low 1 1 bind a B "+longKey+"k no", "say low 1 1 put a K "+longBody+"b 0")
	refuseLine(t, api.ErrEmpty, "say low 1 1 bind . B K no", "say low 1 1 bind a . K no", "say low 1 1 put . K "+longBody+"b 0")
	refuseLine(t, api.ErrLong, "say low 1 1 bind a-name-of-17-byte . K no", "say low 1 1 makeshop a-name-of-17-byte B 0", "say low 1 1 put a "+longKey+"k "+longBody+"b 0")
}

// P31.1: lines are numbered from 1 on, those that don't count among them; of two wrong ones the first one is told.
func TestLineNumbers(t *testing.T) {
	for n := range 40 {
		for _, fill := range []string{"\n", "   \n", "# a\n", "  #begin 3\n"} {
			lines := strings.Repeat(fill, n)
			refuse(t,
				bad{lines + "no\n" + ahead, n + 1, api.ErrForm},
				bad{lines + strings.Replace(ahead, "begin 80", "begin x", 1), n + behind, api.ErrForm},
				bad{lines + ahead + "no\n", n + behind + 1, api.ErrForm},
				bad{ahead + lines + "connect no\n\nno", n + behind + 1, api.ErrNone},
				bad{ahead + "step\n" + lines + "out low\n" + lines + "gone low 1x\n" + lines, 2*n + behind + 3, api.ErrForm},
			)
			_, _, l := parsed(t, lines+ahead+lines+"step\n"+lines+"out low")
			if len(l) != 2 || l[0].Line != 2*n+behind+1 || l[1].Line != 3*n+behind+2 {
				t.Errorf("%d of %q: %+v", n, fill, l)
			}
		}
	}
}

// Of Memory: what is done to an answer changes no later one.
func TestParseIsNew(t *testing.T) {
	s := ahead + "connect low\nsay high 1 1 open\n"
	p, _, l := parsed(t, s)
	p.Places[0].Name, p.Slots[0], p.Grants[0].Budget, l[0].Line, l[1].Event.Chunk = "other", 9, 9, 9, "over"
	parsed(t, s)
}

// some: a script with all commands, and nearly all METHODs.
const some = `work 4
give 1
label a 0 9 1
 slot a
begin  80
connect a
say a 1 0 hello 1
say a 1 1 makequeue q . 9 0
say a 1 255 bind a q k.# yes
# x
say a 1 1 put a . b 0
say a 1 1 settle 1 2 no
gone a 1

step
step 20
arm a 1 10
crash a 0
out a`

// P1, P31.1: any bytes are told of, as the chapter's words have it.
func TestParseAnyBytes(t *testing.T) {
	codes := map[api.Errno]int{}
	for at := range len(some) {
		codes[holds(t, some[:at])]++
		codes[holds(t, some[:at]+some[at+1:])]++
		for b := range 256 {
			one := string([]byte{byte(b)})
			codes[holds(t, some[:at]+one+some[at+1:])]++
			codes[holds(t, some[:at]+one+some[at:])]++
		}
	}
	for _, code := range []api.Errno{api.OK, api.ErrShort, api.ErrForm, api.ErrRange, api.ErrNone, api.ErrEmpty} {
		if codes[code] < 5 {
			t.Errorf("%d is told %d times", code, codes[code])
		}
	}
}

// P31.1: lines of words by chance.
func TestParseAnyWords(t *testing.T) {
	words := strings.Fields("connect say gone step arm crash out begin low high low high no . # a q k.* A yes no 0 1 2 255 256 4096 4097 1048576 1048577 18446744073709551615 18446744073709551616 01 1x -1 hello open put get settle bind makeshop take")
	codes := map[api.Errno]int{}
	for seed := range int64(20000) {
		r := rand.New(rand.NewSource(seed))
		var s strings.Builder
		if s.WriteString(ahead); r.Intn(20) == 0 {
			s.Reset()
		}
		for range r.Intn(5) {
			l := strings.Fields(thrown(r))
			switch r.Intn(4) {
			case 0:
				l[r.Intn(len(l))] = one(r, words...)
			case 1:
				l = slices.Insert(l, r.Intn(len(l)+1), one(r, words...))
			}
			s.WriteString(strings.Join(l, one(r, " ", "  ")) + "\n")
		}
		codes[holds(t, s.String())]++
	}
	for _, code := range []api.Errno{api.OK, api.ErrShort, api.ErrForm, api.ErrRange, api.ErrNone} {
		if codes[code] < 100 {
			t.Errorf("%d is told %d times", code, codes[code])
		}
	}
}
