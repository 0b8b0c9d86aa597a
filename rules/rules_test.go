// Package rules tests what holds in all layers: who calls whom, what is imported, how the code is laid out, and the limits.
package rules

import (
	"bytes"
	"go/ast"
	"go/format"
	"go/parser"
	"go/token"
	"os"
	"path/filepath"
	"slices"
	"strconv"
	"strings"
	"testing"

	"stairwell/api"
)

// longest is how many lines a function has at most.
const longest = 60

// library: the packages of the library that a program of LANGUAGE.md may import.
var library = strings.Fields("bytes cmp container/heap errors iter maps math math/bits slices sort strconv strings sync sync/atomic unicode unicode/utf8")

// layers: the layers' packages from the first one on, each with the layers that it calls, as the document's map has them.
var layers = []struct {
	name  string
	calls []int
}{
	{"octet", nil},
	{"crc", nil},
	{"lattice", []int{1}},
	{"words", nil},
	{"policy", []int{3, 4}},
	{"slots", []int{5}},
	{"frame", []int{1, 2}},
	{"feed", []int{7}},
	{"head", []int{1, 4}},
	{"match", []int{4, 9}},
	{"method", []int{1, 4, 7, 9, 10}},
	{"reply", []int{1, 4, 7, 9}},
	{"mail", []int{1, 4, 9}},
	{"route", []int{4, 10}},
	{"disk", nil},
	{"seg", []int{1, 2}},
	{"wal", []int{1, 2, 15, 16}},
	{"line", []int{13}},
	{"notes", []int{1}},
	{"rise", []int{1, 13}},
	{"stock", []int{1, 4, 13, 18, 20}},
	{"deed", []int{1, 4, 9, 13, 14, 21}},
	{"store", []int{5, 6, 13, 14, 18, 19, 21, 22}},
	{"image", []int{1, 5, 9, 14, 19, 21, 22, 23}},
	{"vault", []int{5, 15, 17, 22, 23, 24}},
	{"draft", []int{22}},
	{"chans", []int{22, 26}},
	{"session", []int{8, 11, 12, 14, 18, 21, 22, 23, 26, 27}},
	{"floor", []int{5, 11, 12, 15, 20, 22, 23, 25, 28}},
	{"broker", []int{5, 6, 15, 20, 23, 29}},
	{"script", []int{5, 7, 8, 11, 12, 30}},
	{"purge", []int{5, 29, 30}},
	{"report", []int{3, 5, 19, 23}},
	{"live", []int{5, 29, 30}},
}

// source is a Go file of the program, with its text.
type source struct {
	path string
	text []byte
	fset *token.FileSet
	file *ast.File
}

// sources: the files of a layer, without its tests.
func sources(t *testing.T, layer string) []source {
	t.Helper()
	paths, _ := filepath.Glob(filepath.Join("..", layer, "*.go"))
	var l []source
	for _, path := range paths {
		if strings.HasSuffix(path, "_test.go") {
			continue
		}
		text, err := os.ReadFile(path)
		if err != nil {
			t.Fatal(err)
		}
		fset := token.NewFileSet()
		file, err := parser.ParseFile(fset, path, text, parser.ParseComments)
		if err != nil {
			t.Fatal(err)
		}
		l = append(l, source{path, text, fset, file})
	}
	if len(l) == 0 {
		t.Errorf("%s: no Go files", layer)
	}
	return l
}

// Of the map: a layer imports api, those that it calls, and of the library what may be.
func TestImports(t *testing.T) {
	for _, layer := range layers {
		may := append([]string{"stairwell/api"}, library...)
		for _, number := range layer.calls {
			may = append(may, "stairwell/"+layers[number-1].name)
		}
		for _, s := range sources(t, layer.name) {
			for _, spec := range s.file.Imports {
				path, _ := strconv.Unquote(spec.Path.Value)
				if !slices.Contains(may, path) {
					t.Errorf("%s imports %s", s.path, path)
				}
			}
		}
	}
}

// Of LANGUAGE.md: gofmt's layout, no //go: line and no build tag, functions that aren't too long.
func TestLayout(t *testing.T) {
	for _, layer := range layers {
		for _, s := range sources(t, layer.name) {
			if neat, err := format.Source(s.text); err != nil || !bytes.Equal(neat, s.text) {
				t.Errorf("%s: not as gofmt lays it out", s.path)
			}
			for _, group := range s.file.Comments {
				for _, c := range group.List {
					if strings.HasPrefix(c.Text, "//go:") || strings.HasPrefix(c.Text, "// +build") {
						t.Errorf("%s: %s", s.path, c.Text)
					}
				}
			}
			for _, d := range s.file.Decls {
				f, ok := d.(*ast.FuncDecl)
				if !ok {
					continue
				}
				if n := s.fset.Position(f.End()).Line - s.fset.Position(f.Pos()).Line + 1; n > longest {
					t.Errorf("%s: %s has %d lines", s.path, f.Name.Name, n)
				}
			}
		}
	}
}

// Of LANGUAGE.md: beside the Go files a layer's folder has nothing.
func TestFiles(t *testing.T) {
	for _, layer := range layers {
		entries, err := os.ReadDir(filepath.Join("..", layer.name))
		if err != nil {
			t.Error(err)
		}
		for _, e := range entries {
			if e.IsDir() || filepath.Ext(e.Name()) != ".go" {
				t.Errorf("%s/%s: no Go file", layer.name, e.Name())
			}
		}
	}
}

// Of Words: the limits.
func TestLimits(t *testing.T) {
	got := []int{
		api.MaxLevel, api.MaxName, api.MaxKey, api.MaxBody, api.MaxPairs, api.MaxLabels, api.MaxSlots, api.MaxGrants,
		api.MaxQueues, api.MaxShops, api.MaxBinds, api.MaxStock, api.MaxRise, api.MaxNotes, api.MaxFrame,
		api.MaxChannels, api.MaxTags, api.MaxCredit, api.MaxHops, api.MaxDraft, api.MaxSessions, api.MaxWork,
	}
	want := []int{15, 16, 64, 256, 8, 16, 32, 8, 8, 8, 32, 64, 16, 32, 2048, 4, 4, 16, 4, 16, 8, 16}
	if !slices.Equal(got, want) {
		t.Errorf("%v, wanted %v", got, want)
	}
}

// Of Words: the errors' numbers.
func TestErrors(t *testing.T) {
	for number, code := range []api.Errno{
		api.OK, api.ErrNil, api.ErrArg, api.ErrShort, api.ErrForm, api.ErrLong, api.ErrMany, api.ErrRange, api.ErrKind,
		api.ErrThere, api.ErrNone, api.ErrFlow, api.ErrFull, api.ErrOrder, api.ErrSum, api.ErrEmpty, api.ErrPower,
		api.ErrSpace, api.ErrEnd, api.ErrGrant, api.ErrClosed, api.ErrBroken,
	} {
		if code != api.Errno(number) {
			t.Errorf("%d, wanted %d", code, number)
		}
	}
}
