package frame_test

import (
	"go/parser"
	"go/token"
	"path/filepath"
	"slices"
	"strconv"
	"strings"
	"testing"
)

// layers are the document's packages, from the lowest one on; package api lies below all of them.
var layers = []string{
	"api", "meter", "arena", "bitset", "mailbox", "lexer", "reader", "printer", "names", "check",
	"first", "states", "digraph", "look", "resolve", "table", "pattern", "scan", "tree", "engine",
	"expr", "code", "eval", "build", "parse", "tenant", "service",
}

// library are those packages of the language's library that the program may use.
var library = []string{
	"bytes", "cmp", "container/heap", "errors", "iter", "maps", "math", "math/bits", "slices", "sort",
	"strconv", "strings", "sync", "sync/atomic", "unicode", "unicode/utf8",
}

// imports are the packages that a layer's files import, its tests left out.
func imports(t *testing.T, layer string) []string {
	t.Helper()
	files, err := filepath.Glob(filepath.Join("..", layer, "*.go"))
	if err != nil || len(files) == 0 {
		t.Fatal(layer, "has no files", err)
	}
	var l []string
	for _, name := range files {
		if strings.HasSuffix(name, "_test.go") {
			continue
		}
		f, err := parser.ParseFile(token.NewFileSet(), name, nil, parser.ImportsOnly)
		if err != nil {
			t.Fatal(err)
		}
		for _, x := range f.Imports {
			path, _ := strconv.Unquote(x.Path.Value)
			l = append(l, path)
		}
	}
	return l
}

// The document's map: a layer calls those of lower numbers alone; the language's first rule: few packages of the library.
func TestLayersImportWhatTheyMay(t *testing.T) {
	for i, layer := range layers {
		for _, path := range imports(t, layer) {
			own, isOwn := strings.CutPrefix(path, "tronage/")
			number := slices.Index(layers, own)
			if isOwn && number >= i || !isOwn && !slices.Contains(library, path) {
				t.Errorf("%s imports %s", layer, path)
			}
		}
	}
}
