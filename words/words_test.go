package words

import (
	"slices"
	"strings"
	"testing"

	"stairwell/api"
)

// marks: all bytes that may stand in a name, or in a word.
const marks = "abcdefghijklmnopqrstuvwxyz0123456789-_"

// P4.1: a name's length.
func TestNameLength(t *testing.T) {
	for length := range 40 {
		want := api.OK
		switch {
		case length == 0:
			want = api.ErrEmpty
		case length > 16:
			want = api.ErrLong
		}
		if got := Name(strings.Repeat("n", length)); got != want {
			t.Errorf("%d bytes: %d, wanted %d", length, got, want)
		}
	}
}

// P4.1: each byte alone, at the front of a name, in its middle and at its end.
func TestNameBytes(t *testing.T) {
	for b := range 256 {
		one := string([]byte{byte(b)})
		want := api.ErrForm
		if strings.Contains(marks, one) {
			want = api.OK
		}
		for _, name := range []string{one, one + "ab", "a" + one + "b", "ab" + one, "fifteen-letters" + one} {
			if got := Name(name); got != want {
				t.Errorf("%q: %d, wanted %d", name, got, want)
			}
		}
	}
}

// P4.1: a name that is too long is told so ahead of its form.
func TestNameFirstError(t *testing.T) {
	if got := Name("A name of many words"); got != api.ErrLong {
		t.Errorf("%d", got)
	}
	if got := Name("A name of words."); got != api.ErrForm {
		t.Errorf("%d", got)
	}
}

// P4.1: keys, and patterns that are keys, too.
func TestKeys(t *testing.T) {
	for _, s := range []string{
		"", "a", "0", "-", "_", "a.b", "a.b.c.d", "-._.0", "ab.cd-ef.g_h.012", marks,
		"a-word-of-more-bytes-than-a-name", strings.Repeat("k", 64), strings.Repeat("k.", 31) + "kk",
	} {
		if got := Key(s); got != api.OK {
			t.Errorf("Key(%q): %d", s, got)
		}
		if got := Pattern(s); got != api.OK {
			t.Errorf("Pattern(%q): %d", s, got)
		}
	}
}

// P4.1: patterns that are no keys.
func TestPatterns(t *testing.T) {
	for _, s := range []string{
		"*", "#", "*.*", "#.#", "*.#", "#.*", "a.*", "*.a", "a.*.b", "a.#", "#.a", "a.#.b", "a.*.#",
		strings.Repeat("*.", 31) + "*", strings.Repeat("#.", 31) + "#", strings.Repeat("k", 62) + ".#",
	} {
		if got := Key(s); got != api.ErrForm {
			t.Errorf("Key(%q): %d", s, got)
		}
		if got := Pattern(s); got != api.OK {
			t.Errorf("Pattern(%q): %d", s, got)
		}
	}
}

// P4.1: what is neither: words without bytes, or with others; a star or a hash that isn't alone.
func TestNeither(t *testing.T) {
	for _, s := range []string{
		".", "..", ".a", "a.", "a..b", "a.b.", ".#", "#.", "*..*", "*.", ".*",
		"A", "a b", " ", "a.B", "a.b.c!", "a/b", "a:b", "`", "{", "/", ":", "\x00", "\xff", "é", "a.\n",
		"**", "##", "*#", "#*", "a*", "*a", "a#", "#a", "a.b*", "a.#b", "a.*b.c", "*.**", "#.##", "#.a.*#",
	} {
		if got := Key(s); got != api.ErrForm {
			t.Errorf("Key(%q): %d", s, got)
		}
		if got := Pattern(s); got != api.ErrForm {
			t.Errorf("Pattern(%q): %d", s, got)
		}
	}
}

// P4.1: each byte alone, as a word, and in one of several.
func TestKeyBytes(t *testing.T) {
	for b := range 256 {
		one := string([]byte{byte(b)})
		right := strings.Contains(marks, one)
		for _, s := range []string{one, "a." + one, one + ".a", "a." + one + ".b"} {
			if got := Key(s); (got == api.OK) != right || !right && got != api.ErrForm {
				t.Errorf("Key(%q): %d", s, got)
			}
			may := right || b == '*' || b == '#'
			if got := Pattern(s); (got == api.OK) != may || !may && got != api.ErrForm {
				t.Errorf("Pattern(%q): %d", s, got)
			}
		}
		inner := "a.b" + one + "c.d"
		if want := right || b == '.'; (Key(inner) == api.OK) != want || (Pattern(inner) == api.OK) != want {
			t.Errorf("%q: %d, %d", inner, Key(inner), Pattern(inner))
		}
	}
}

// P4.1: what has too many bytes is told so, ahead of its form.
func TestKeyTooLong(t *testing.T) {
	for _, s := range []string{
		strings.Repeat("k", 65), strings.Repeat("k.", 32) + "k", strings.Repeat("K", 65), strings.Repeat(".", 65),
		strings.Repeat("*", 65), strings.Repeat("#.", 32) + "#", strings.Repeat("k", 64) + ".", strings.Repeat("k", 1000),
	} {
		if got := Key(s); got != api.ErrLong {
			t.Errorf("Key(%q): %d", s, got)
		}
		if got := Pattern(s); got != api.ErrLong {
			t.Errorf("Pattern(%q): %d", s, got)
		}
	}
	for _, s := range []string{strings.Repeat("K", 64), strings.Repeat(".", 64), strings.Repeat("*", 64)} {
		if Key(s) != api.ErrForm || Pattern(s) != api.ErrForm {
			t.Errorf("%q: %d, %d", s, Key(s), Pattern(s))
		}
	}
}

// P4.1: the words of any text.
func TestSplit(t *testing.T) {
	for _, c := range []struct {
		text string
		want []string
	}{
		{"", nil},
		{"a", []string{"a"}},
		{"a.b", []string{"a", "b"}},
		{"a.*.#", []string{"a", "*", "#"}},
		{".", []string{"", ""}},
		{"..", []string{"", "", ""}},
		{".a", []string{"", "a"}},
		{"a.", []string{"a", ""}},
		{"a..b", []string{"a", "", "b"}},
		{"A b.\x00\xff.é", []string{"A b", "\x00\xff", "é"}},
		{strings.Repeat("w.", 100) + "w", slices.Repeat([]string{"w"}, 101)},
	} {
		if got := Split(c.text); !slices.Equal(got, c.want) {
			t.Errorf("Split(%q): %q", c.text, got)
		}
	}
}

// P4.1: an answer shares nothing with another one.
func TestSplitIsNew(t *testing.T) {
	first := Split("a.b")
	first[0] = "z"
	if got := Split("a.b"); !slices.Equal(got, []string{"a", "b"}) {
		t.Errorf("%q", got)
	}
}

// P4.2, and the document's example: stars and hashes at the front, in the middle and at the end, and the empty key.
func TestMatches(t *testing.T) {
	for _, c := range []struct{ pattern, match, miss string }{
		{"a.*.#", "a.b a.b.c a.b.c.d a.a", "- a b b.a b.a.c"},
		{"a", "a", "- b aa a.a a.b b.a"},
		{"a.b", "a.b", "- a b b.a a.b.c c.a.b ab a.c"},
		{"", "-", "a a.b"},

		{"*", "a b abc", "- a.b a.b.c"},
		{"*.b", "a.b b.b", "- b a a.a a.c.b b.a"},
		{"a.*", "a.a a.b", "- a b.a a.b.c"},
		{"a.*.c", "a.b.c a.a.c a.c.c", "- a.c a.b a.b.b.c a.b.c.c a.b.c.d"},
		{"*.b.*", "a.b.c b.b.b", "- b a.b b.c b.b a.c.b a.b.c.d"},
		{"*.*", "a.b a.a", "- a a.b.c"},

		{"#", "- a a.b a.b.c", ""},
		{"#.b", "b a.b b.b a.a.b a.b.b b.a.b", "- a b.a a.b.a"},
		{"a.#", "a a.b a.a a.b.c.d", "- b b.a"},
		{"a.#.c", "a.c a.b.c a.b.b.c a.c.c a.c.b.c", "- a c a.b a.c.b c.a b.a.c"},
		{"#.b.#", "b a.b b.a a.b.a b.b a.a.b.a.a", "- a a.a a.c.a"},
		{"#.a.#.b", "a.b a.a.b a.c.b c.a.b.b b.a.b.a.b", "- a b b.a a.b.a b.b"},
		{"#.#", "- a a.b a.b.c", ""},

		{"*.#", "a a.b a.b.c", "-"},
		{"#.*", "a a.b a.b.c", "-"},
		{"#.*.#", "a a.b a.b.c", "-"},
		{"*.#.*", "a.b a.b.c", "- a"},
		{"#.*.b", "a.b b.b a.a.b", "- b b.a a.b.a"},
		{"a.#.*", "a.b a.a.a a.b.c", "- a b.a"},
		{"*.a.#.b.*", "x.a.b.y x.a.c.b.y x.a.b.b.y a.a.b.b", "- a.b x.a.b a.b.y x.b.a.y x.a.c.y"},
	} {
		for _, key := range strings.Fields(c.match) {
			if !Matches(c.pattern, strings.TrimPrefix(key, "-")) {
				t.Errorf("%q doesn't match %q", c.pattern, key)
			}
		}
		for _, key := range strings.Fields(c.miss) {
			if Matches(c.pattern, strings.TrimPrefix(key, "-")) {
				t.Errorf("%q matches %q", c.pattern, key)
			}
		}
	}
}

// rows: all texts of at most so many of some words.
func rows(most int, some ...string) []string {
	l := []string{""}
	for n := 0; n < len(l); n++ {
		if len(Split(l[n])) == most {
			continue
		}
		for _, word := range some {
			l = append(l, strings.TrimPrefix(l[n]+"."+word, "."))
		}
	}
	return l
}

// give is Matches as the document's words have it: each way to give words is tried.
func give(pattern, key []string) bool {
	switch {
	case len(pattern) == 0:
		return len(key) == 0
	case pattern[0] == "#" && give(pattern[1:], key):
		return true
	case len(key) == 0:
		return false
	case pattern[0] == "#":
		return give(pattern, key[1:])
	}
	return (pattern[0] == "*" || pattern[0] == key[0]) && give(pattern[1:], key[1:])
}

// P4.2: all patterns of a few words, and all keys.
func TestMatchesAll(t *testing.T) {
	for _, pattern := range rows(4, "a", "b", "*", "#") {
		for _, key := range rows(5, "a", "b") {
			if got, want := Matches(pattern, key), give(Split(pattern), Split(key)); got != want {
				t.Errorf("Matches(%q, %q): %v", pattern, key, got)
			}
		}
	}
}

// P4.2, P1: the longest patterns and keys are told of soon, too.
func TestMatchesLongest(t *testing.T) {
	hashes := strings.Repeat("#.a.", 15) + "#.b"
	if Matches(hashes, strings.Repeat("a.", 31)+"a") || !Matches(hashes, strings.Repeat("a.", 31)+"b") {
		t.Error(hashes)
	}
	long := strings.Repeat("k", 64)
	if !Matches(long, long) || !Matches("*", long) || Matches(long[1:], long) || Matches(long, long[1:]) {
		t.Error("one word")
	}
}

// P4.3: a key matches itself alone; a hash matches each; in the place of a word it matches what that matched.
func TestWhatFollows(t *testing.T) {
	keys := rows(4, "a", "b")
	for _, key := range keys {
		if !Matches("#", key) {
			t.Errorf("# doesn't match %q", key)
		}
		for _, other := range keys {
			if Matches(key, other) != (key == other) {
				t.Errorf("Matches(%q, %q)", key, other)
			}
		}
	}
	for _, pattern := range rows(3, "a", "b", "*", "#") {
		for at := range Split(pattern) {
			l := Split(pattern)
			l[at] = "#"
			wider := strings.Join(l, ".")
			for _, key := range keys {
				if Matches(pattern, key) && !Matches(wider, key) {
					t.Errorf("%q matches %q, and %q doesn't", pattern, key, wider)
				}
			}
		}
	}
}
