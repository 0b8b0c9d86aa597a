package script

import (
	"math/rand"
	"slices"
	"strconv"
	"strings"
	"testing"

	"stairwell/api"
	"stairwell/reply"
)

// plays: a test fails, if a script's commands don't tell just this. Each line is a command, with what it tells behind an arrow, several lines
// with points between.
func plays(t *testing.T, policy, text string) {
	t.Helper()
	var all strings.Builder
	var want []string
	all.WriteString(policy)
	for _, one := range strings.Split(text, "\n") {
		command, told, _ := strings.Cut(one, " -> ")
		all.WriteString(command + "\n")
		if told != "" {
			want = append(want, strings.Split(told, "; ")...)
		}
	}
	l, line, code := Run(all.String())
	if line != 0 || code != api.OK || !slices.Equal(l, want) {
		t.Errorf("%q, %d, %d, wanted %q", l, line, code, want)
	}
	runs(t, all.String())
}

// alone: a policy of one place, and begin.
const alone = "work 4\ngive 2\nlabel low 0 2000 1\nslot low\nbegin 80\n"

// P31.2: the document's example.
func TestRunExample(t *testing.T) {
	l, line, code := Run(example)
	if line != 0 || code != api.OK || !slices.Equal(l, []string{"client 1", "tick 2"}) {
		t.Errorf("%q, %d, %d", l, line, code)
	}
}

// P31.2: what each command tells, and a reply's line of each kind.
func TestRun(t *testing.T) {
	plays(t, alone, `connect low -> client 1
say low 1 0 hello 1 -> ok
say low 1 1 open -> ok
say low 1 1 makeshop a . 1 -> ok
say low 1 1 makequeue q . 9 0 -> ok
out low
step -> tick 1
out low -> 1 0 welcome low; 1 1 done; 1 1 done; 1 1 done
out low
say low 1 1 bind a q . no -> ok
say low 1 1 put a k.l body 0 -> ok
say low 1 1 get q -> ok
say low 1 1 get q -> ok
step 1 -> tick 2
out low -> 1 1 done; 1 1 sent 1 256 no a k.l body; 1 1 nothing
say low 1 1 settle 1 2 no -> ok
say low 1 1 take q 7 -> ok
say low 1 1 settle 5 0 no -> ok
step 2 -> tick 4
out low -> 1 1 done; 1 1 done; 1 1 refused 10; 1 1 sent 1 7 yes a k.l body
say low 1 200 open -> ok
step -> tick 5
out low -> 1 0 bye 7
connect low -> client 2
connect low -> client 3
say low 2 0 hello 1 -> ok
say low 2 4 open -> ok
say low 2 4 sure -> ok
say low 2 4 put a . . 0 -> ok
say low 2 4 put b . . 0 -> ok
say low 2 4 put a . .. 0 -> ok
say low 2 0 hello 1 -> ok
say low 3 0 hello 2 -> ok
step 3 -> tick 8
out low -> 2 0 welcome low; 2 4 done; 2 4 done; 3 0 bye 7; 2 4 kept 1; 2 4 lost 2 10; 2 4 kept 3; 2 0 bye 13
gone low 3 -> error 10
connect low -> client 4
say low 4 0 hello 1 -> ok
say low 4 1 open -> ok
say low 4 1 take q 0 -> ok
step 9 -> tick 17
out low -> 4 0 welcome low; 4 1 done; 4 1 done; 4 1 sent 1 0 yes a k.l body; 4 1 sent 2 0 no a . .; 4 1 sent 3 0 no a . ..
gone low 4 -> ok
step -> tick 18
out low
gone low 4 -> error 10`)
}

// P31.2: Where a command has an error: error and its number.
func TestRunErrors(t *testing.T) {
	plays(t, alone, `say low 1 0 hello 1 -> error 10
gone low 0 -> error 10
connect low -> client 1
say low 2 0 hello 1 -> error 10
gone low 18446744073709551615 -> error 10
connect low -> client 2
connect low -> client 3
connect low -> client 4
connect low -> client 5
connect low -> client 6
connect low -> client 7
connect low -> client 8
connect low -> error 12
arm low 9 0 -> ok
crash low 0 -> ok
connect low -> error 16
say low 1 1 open -> error 16
gone low 1 -> error 16
out low
arm low 0 0 -> ok
crash low 1048576 -> ok
step -> tick 1
say low 1 1 open -> error 10
connect low -> client 1
say low 1 0 hello 1 -> ok
arm low 0 64 -> ok
step -> tick 2
connect low -> error 16
out low
step -> tick 3
connect low -> client 1`)
}

// P31.2: of step with several times, and with none, the tick is told once.
func TestRunSteps(t *testing.T) {
	plays(t, alone, "step 0 -> tick 0\nstep -> tick 1\nstep 0 -> tick 1\nstep 1 -> tick 2\nstep 7 -> tick 9\nstep 100 -> tick 109\nstep 0 -> tick 109")
	plays(t, alone, "step 4096 -> tick 4096\nstep 0 -> tick 4096")
	plays(t, alone, "")
	plays(t, ahead, "# nothing\n\n   ")
}

// P31.2: what was released at a place since it was asked last, at each place of its own; also ahead of a loss of power.
func TestRunPlaces(t *testing.T) {
	plays(t, ahead, `connect high -> client 1
connect low -> client 1
say high 1 0 hello 1 -> ok
say low 1 0 hello 1 -> ok
step -> tick 1
out high
out low -> 1 0 welcome low
step -> tick 2
out low
crash high 0 -> ok
out high -> 1 0 welcome high
out high
connect high -> error 16
step 2 -> tick 4
connect high -> client 1
say high 1 0 hello 1 -> ok
say high 1 1 open -> ok
step 2 -> tick 6
out high -> 1 0 welcome high; 1 1 done`)
	plays(t, ahead, `connect low -> client 1
connect high -> client 1
say low 1 0 hello 1 -> ok
say low 1 1 open -> ok
say low 1 1 makeshop a . 1 -> ok
say low 1 1 lift a high . no -> ok
say high 1 0 hello 1 -> ok
say high 1 1 open -> ok
say high 1 1 makeshop a . 1 -> ok
say high 1 1 makequeue q . 9 0 -> ok
say high 1 1 bind a q . no -> ok
say high 1 1 take q 255 -> ok
step 4 -> tick 4
say low 1 1 put a k up 0 -> ok
step -> tick 5
out low -> 1 0 welcome low; 1 1 done; 1 1 done; 1 1 done
step -> tick 6
out high -> 1 0 welcome high; 1 1 done; 1 1 done; 1 1 done; 1 1 done; 1 1 done; 1 1 sent 7 255 no a k up`)
}

// P31.2: a client's bytes are those of the frames, so that what is said of no method that may come is told by a Bye.
func TestRunBye(t *testing.T) {
	plays(t, alone, `connect low -> client 1
say low 1 255 settle 18446744073709551615 18446744073709551615 yes -> ok
step -> tick 1
out low -> 1 0 bye 13
say low 1 0 hello 1 -> error 10`)
}

// P31.2: of New's error the number of the line that begins with begin, and that error; nothing is told.
func TestRunNew(t *testing.T) {
	for blocks, want := range map[string]api.Errno{"0": api.ErrRange, "1": api.ErrRange, "3": api.ErrRange, "4": api.ErrSpace, "9": api.ErrSpace} {
		for n := range 5 {
			s := strings.Repeat("# a\n", n) + strings.Replace(ahead, "begin 80", "\n begin  "+blocks, 1) + "connect low\nbegins\n"
			s = strings.TrimSuffix(s, "begins\n")
			l, line, code := Run(s)
			if line != n+behind+1 || code != want || len(l) != 0 {
				t.Errorf("%s blocks: %q, %d, %d, wanted %d", blocks, l, line, code, want)
			}
			runs(t, s)
			if _, _, l, line, code := Parse(s); line != 0 || code != api.OK || len(l) != 1 {
				t.Errorf("%s blocks: %+v, %d, %d", blocks, l, line, code)
			}
			refuse(t, bad{s + "connect no\n", n + behind + 3, api.ErrNone})
		}
	}
	for _, blocks := range []string{"10", "80", "4096", "4097", "1048576"} {
		l, line, code := Run(strings.Replace(ahead, "80", blocks, 1) + "connect low\nstep\n")
		if line != 0 || code != api.OK || !slices.Equal(l, []string{"client 1", "tick 1"}) {
			t.Errorf("%s blocks: %q, %d, %d", blocks, l, line, code)
		}
	}
}

// P31.2: Tell: the line of a reply of each kind, at its edges; texts as they are, one that is empty as a point.
func TestTell(t *testing.T) {
	const most = 1<<64 - 1
	great := strconv.FormatUint(most, 10)
	kinds := map[uint8]bool{}
	for _, x := range []struct {
		client uint64
		r      reply.Reply
		want   string
	}{
		{1, reply.Reply{Kind: reply.Welcome, Name: "low"}, "1 0 welcome low"},
		{most, reply.Reply{Channel: 255, Kind: reply.Welcome, Name: "a-name-of-16-byt"}, great + " 255 welcome a-name-of-16-byt"},
		{0, reply.Reply{Channel: 1, Kind: reply.Done}, "0 1 done"},
		{10, reply.Reply{Channel: 10, Kind: reply.Done}, "10 10 done"},
		{1, reply.Reply{Channel: 4, Kind: reply.Refused, N: 10}, "1 4 refused 10"},
		{1, reply.Reply{Channel: 4, Kind: reply.Refused}, "1 4 refused 0"},
		{1, reply.Reply{Channel: 1, Kind: reply.Sent, N: 7, M: 256, Mail: api.Mail{Shop: "a", Key: "k.l", Body: "x"}}, "1 1 sent 7 256 no a k.l x"},
		{1, reply.Reply{Channel: 1, Kind: reply.Sent, Yes: true, Mail: api.Mail{Shop: "a"}}, "1 1 sent 0 0 yes a . ."},
		{1, reply.Reply{Channel: 1, Kind: reply.Sent, N: 1, Mail: api.Mail{Shop: "a", Key: "k"}}, "1 1 sent 1 0 no a k ."},
		{1, reply.Reply{Channel: 1, Kind: reply.Sent, N: 1, Mail: api.Mail{Shop: "a", Body: "k"}}, "1 1 sent 1 0 no a . k"},
		{1, reply.Reply{Channel: 1, Kind: reply.Sent, N: most, M: most, Mail: api.Mail{Shop: "-", Key: longKey, Body: longBody}}, "1 1 sent " + great + " " + great + " no - " + longKey + " " + longBody},
		{1, reply.Reply{Channel: 1, Kind: reply.Sent, Mail: api.Mail{Shop: "a", Body: " a  b\n\x00\xff\"é\t"}}, "1 1 sent 0 0 no a .  a  b\n\x00\xff\"é\t"},
		{1, reply.Reply{Channel: 1, Kind: reply.Sent, Mail: api.Mail{Shop: "a", Body: "."}}, "1 1 sent 0 0 no a . ."},
		{1, reply.Reply{Channel: 1, Kind: reply.Sent, Mail: api.Mail{Shop: "a", Head: []api.Pair{{Key: "h", Kind: 1, Text: "t"}}, Body: "b"}}, "1 1 sent 0 0 no a . b"},
		{3, reply.Reply{Channel: 2, Kind: reply.Nothing}, "3 2 nothing"},
		{3, reply.Reply{Channel: 2, Kind: reply.Kept, N: 1}, "3 2 kept 1"},
		{3, reply.Reply{Channel: 2, Kind: reply.Kept, N: most}, "3 2 kept " + great},
		{3, reply.Reply{Channel: 2, Kind: reply.Lost, N: 2, M: 10}, "3 2 lost 2 10"},
		{3, reply.Reply{Channel: 2, Kind: reply.Lost, N: most, M: most}, "3 2 lost " + great + " " + great},
		{3, reply.Reply{Kind: reply.Bye, N: 13}, "3 0 bye 13"},
		{3, reply.Reply{Channel: 9, Kind: reply.Bye}, "3 9 bye 0"},
	} {
		kinds[x.r.Kind] = true
		if code := x.r.Check(); code != api.OK {
			t.Fatalf("%+v may not be: %d", x.r, code)
		}
		if got := Tell(x.client, x.r); got != x.want || got != plainTell(x.client, x.r) {
			t.Errorf("%+v: %q, wanted %q", x.r, got, x.want)
		}
	}
	if len(kinds) != reply.Bye+1 {
		t.Errorf("%d kinds", len(kinds))
	}
}

// P1: Tell ends, and doesn't panic, of any reply.
func TestTellAny(t *testing.T) {
	for kind := range 256 {
		Tell(1, reply.Reply{Kind: uint8(kind), N: 1, Name: "\x00", Mail: api.Mail{Hops: 9}})
	}
}

// P31.2: long scripts by chance, held against the chapter's words.
func TestRunRows(t *testing.T) {
	told := map[string]int{}
	for seed := range int64(150) {
		r := rand.New(rand.NewSource(seed))
		s := strings.Replace(ahead, "begin 80", "begin "+one(r, "30", "80", "400"), 1)
		for _, one := range runs(t, s+strings.Join(rowOf(r, 400), "\n")) {
			words := strings.Fields(one)
			if told[words[0]]++; len(words) > 2 {
				told[words[2]]++
			}
		}
	}
	for _, word := range strings.Fields("client ok tick error welcome done refused sent nothing kept lost bye") {
		if told[word] < 100 {
			t.Errorf("%s is told %d times", word, told[word])
		}
	}
}

// P31.3: a script tells what its beginning tells, and more, wherever it is cut behind the line with begin.
func TestBeginnings(t *testing.T) {
	for seed := range int64(12) {
		r := rand.New(rand.NewSource(seed))
		lines := rowOf(r, 120)
		all := runs(t, ahead+strings.Join(lines, "\n"))
		last := 0
		for n := range len(lines) + 1 {
			told, line, code := Run(ahead + strings.Join(lines[:n], "\n"))
			if line != 0 || code != api.OK || len(told) < last || len(told) > len(all) || !slices.Equal(told, all[:len(told)]) {
				t.Fatalf("%d of the lines: %q, %d, %d, of %q", n, told, line, code, all)
			}
			last = len(told)
		}
		if last != len(all) {
			t.Errorf("%d lines, wanted %d", last, len(all))
		}
	}
}

// Of Memory: what is done to an answer changes no later one.
func TestRunIsNew(t *testing.T) {
	l := runs(t, example)
	for at := range l[:cap(l)] {
		l[:cap(l)][at] = "over"
	}
	runs(t, example)
	TestRunExample(t)
}
