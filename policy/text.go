package policy

import (
	"math"
	"strconv"
	"strings"

	"stairwell/api"
	"stairwell/lattice"
)

const (
	lineFeed = "\n"
	blank    = ' '
	remark   = "#"     // ahead of what doesn't count
	small    = 1 << 20 // the greatest number of a line, but for a Base

	// The lines' first words.
	wordWork  = "work"
	wordGive  = "give"
	wordLabel = "label"
	wordSlot  = "slot"
	wordGrant = "grant"
)

// Parse: the policy of a text.
func Parse(s string) (Policy, int, api.Errno) {
	var p Policy
	for at := 1; s != ""; at++ {
		one, behind, _ := strings.Cut(s, lineFeed)
		if code := p.take(one); code != api.OK {
			return Policy{}, at, code
		}
		s = behind
	}
	if code := p.Check(); code != api.OK {
		return Policy{}, 0, code
	}
	return p, 0, api.OK
}

// take: and what a line tells.
func (p *Policy) take(one string) api.Errno {
	words := strings.FieldsFunc(one, func(r rune) bool { return r == blank })
	if len(words) == 0 || strings.HasPrefix(words[0], remark) {
		return api.OK
	}
	if len(words) != asked(words[0]) {
		return api.ErrForm
	}
	return p.tell(words[0], &reader{words: words[1:]})
}

// asked: how many words a line has whose first word is that; 0, where none begins so.
func asked(first string) int {
	switch first {
	case wordWork, wordGive, wordSlot:
		return 2
	case wordGrant:
		return 4
	case wordLabel:
		return 5
	}
	return 0
}

// tell: and what a line tells, of its first word and those behind it.
func (p *Policy) tell(first string, r *reader) api.Errno {
	switch first {
	case wordWork:
		p.Work = r.small()
	case wordGive:
		p.Give = r.small()
	case wordLabel:
		var one Place
		one.Name = r.word()
		one.Label = r.label()
		one.Bytes = r.small()
		one.Base = r.number(math.MaxUint64)
		p.Places = append(p.Places, one)
	case wordSlot:
		p.Slots = append(p.Slots, r.place(*p))
	case wordGrant:
		var one Grant
		one.From = r.place(*p)
		one.To = r.place(*p)
		one.Budget = r.small()
		p.Grants = append(p.Grants, one)
	}
	return r.code
}

// reader is the words of a line that aren't read yet, and the first error of those that are.
type reader struct {
	words []string
	code  api.Errno
}

// word: the next one.
func (r *reader) word() string {
	s := r.words[0]
	r.words = r.words[1:]
	return s
}

// fail: the error is that, if there is none yet.
func (r *reader) fail(code api.Errno) {
	if r.code == api.OK {
		r.code = code
	}
}

// label: the one of the next word.
func (r *reader) label() api.Label {
	a, code := lattice.Parse(r.word())
	r.fail(code)
	return a
}

// number: the one of at most so much of the next word.
func (r *reader) number(most uint64) uint64 {
	n, code := number(r.word(), most)
	r.fail(code)
	return n
}

// small: the number of the next word.
func (r *reader) small() int { return int(r.number(small)) }

// place: the one of which the next word is the name.
func (r *reader) place(p Policy) int {
	at := p.Find(r.word())
	if at < 0 {
		r.fail(api.ErrNone)
	}
	return at
}

// number: the one of at most so much of a text.
func number(s string, most uint64) (uint64, api.Errno) {
	if !digits(s) || len(s) > 1 && s[0] == '0' {
		return 0, api.ErrForm
	}
	n, err := strconv.ParseUint(s, 10, 64)
	if err != nil || n > most {
		return 0, api.ErrRange
	}
	return n, api.OK
}

// digits: has a text nothing else? (ParseUint doesn't tell: where a number is too great it looks at no byte behind.)
func digits(s string) bool {
	for at := range len(s) {
		if s[at] < '0' || '9' < s[at] {
			return false
		}
	}
	return s != ""
}

// Print: a policy's text.
func Print(p Policy) (string, api.Errno) {
	if code := p.Check(); code != api.OK {
		return "", code
	}
	s := line(wordWork, strconv.Itoa(p.Work)) + line(wordGive, strconv.Itoa(p.Give))
	for _, one := range p.Places {
		base := strconv.FormatUint(one.Base, 10)
		s += line(wordLabel, one.Name, lattice.Text(one.Label), strconv.Itoa(one.Bytes), base)
	}
	for _, place := range p.Slots {
		s += line(wordSlot, p.Places[place].Name)
	}
	for _, one := range p.Grants {
		s += line(wordGrant, p.Places[one.From].Name, p.Places[one.To].Name, strconv.Itoa(one.Budget))
	}
	return s, api.OK
}

// line: some words, as a line of a text.
func line(words ...string) string { return strings.Join(words, string(blank)) + lineFeed }
