package script

import (
	"strconv"
	"strings"

	"stairwell/api"
	"stairwell/broker"
	"stairwell/feed"
	"stairwell/reply"
)

const (
	// What commands tell.
	toldClient = "client"
	toldOK     = "ok"
	toldTick   = "tick"
	toldError  = "error"
)

// Run: what a script tells.
func Run(text string) ([]string, int, api.Errno) {
	s, line, code := read(text)
	if code != api.OK {
		return nil, line, code
	}
	b, code := broker.New(s.policy, s.blocks)
	if code != api.OK {
		return nil, s.begin, code
	}
	var l []string
	for _, c := range s.commands {
		l = append(l, c.run(b)...)
	}
	return l, 0, api.OK
}

// run: what a command tells.
func (c Command) run(b *broker.Broker) []string {
	if c.Out {
		return released(b, c.Event.Place)
	}
	var n uint64
	for range c.Times {
		var code api.Errno
		if n, code = b.Do(c.Event); code != api.OK {
			return []string{joined(toldError, decimal(uint64(code)))}
		}
	}
	switch c.Event.Kind {
	case broker.Connect:
		return []string{joined(toldClient, decimal(n))}
	case broker.Step:
		return []string{joined(toldTick, decimal(b.Tick()))}
	}
	return []string{toldOK}
}

// released: a line for each reply that was released at a place.
func released(b *broker.Broker, place int) []string {
	var l []string
	for _, o := range b.Out(place) {
		_, frames := feed.Feed{}.Take(o.Bytes)
		for _, f := range frames {
			r, _ := reply.Of(f) // no error: nothing but replies is released
			l = append(l, Tell(o.Client, r))
		}
	}
	return l
}

// Tell: the line of a reply.
func Tell(client uint64, r reply.Reply) string {
	words := []string{decimal(client), decimal(uint64(r.Channel))}
	return joined(append(words, told(r)...)...)
}

// told: the words of a reply's kind, and of what that tells.
func told(r reply.Reply) []string {
	switch r.Kind {
	case reply.Welcome:
		return []string{"welcome", textOf(r.Name)}
	case reply.Done:
		return []string{"done"}
	case reply.Refused:
		return []string{"refused", decimal(r.N)}
	case reply.Sent:
		m := r.Mail
		return []string{"sent", decimal(r.N), decimal(r.M), yesOf(r.Yes), textOf(m.Shop), textOf(m.Key), textOf(m.Body)}
	case reply.Nothing:
		return []string{"nothing"}
	case reply.Kept:
		return []string{"kept", decimal(r.N)}
	case reply.Lost:
		return []string{"lost", decimal(r.N), decimal(r.M)}
	case reply.Bye:
		return []string{"bye", decimal(r.N)}
	}
	return nil
}

// textOf: the word of a text.
func textOf(s string) string {
	if s == "" {
		return empty
	}
	return s
}

// yesOf: the word of yes or no.
func yesOf(is bool) string {
	if is {
		return wordYes
	}
	return wordNo
}

// decimal: the word of a number.
func decimal(n uint64) string { return strconv.FormatUint(n, 10) }

// joined: some words, as a line.
func joined(words ...string) string { return strings.Join(words, string(blank)) }
