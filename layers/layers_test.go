// Package layers tests what no single layer can: that each one calls just those that the document's map allows (R6).
package layers

import (
	"go/parser"
	"go/token"
	"path/filepath"
	"slices"
	"strconv"
	"strings"
	"testing"
)

// calls is the document's map: which layers each layer may call. All may use api.
var calls = map[string][]string{
	"api":     {},
	"words":   {},
	"chacha":  {"words"},
	"poly":    {"words"},
	"aead":    {"words", "chacha", "poly"},
	"blake":   {"words"},
	"kdf":     {"words", "blake"},
	"field":   {"words"},
	"curve":   {"field"},
	"cipher":  {"words", "aead", "blake", "kdf"},
	"noise":   {"curve", "cipher"},
	"window":  {},
	"stun":    {"words"},
	"frame":   {"words"},
	"nat":     {},
	"relay":   {"words", "stun", "frame"},
	"ice":     {},
	"session": {"words", "curve", "cipher", "noise", "window", "frame"},
	"engine":  {"words", "blake", "curve", "stun", "frame", "ice", "session"},
	"world":   {"words", "blake", "curve", "nat", "relay", "engine"},
	"script":  {"world"},
}

// library is what the language's rules let the program import.
var library = []string{
	"bytes", "cmp", "container/heap", "errors", "iter", "maps", "math", "math/bits", "slices", "sort",
	"strconv", "strings", "sync", "sync/atomic", "unicode", "unicode/utf8",
}

// imports answers what the files of a layer import, tests aside.
func imports(t *testing.T, layer string) []string {
	t.Helper()
	files, err := filepath.Glob(filepath.Join("..", layer, "*.go"))
	if err != nil || len(files) == 0 {
		t.Fatalf("%s: no files: %v", layer, err)
	}
	var all []string
	for _, file := range files {
		if strings.HasSuffix(file, "_test.go") {
			continue
		}
		tree, err := parser.ParseFile(token.NewFileSet(), file, nil, parser.ImportsOnly)
		if err != nil {
			t.Fatal(err)
		}
		for _, spec := range tree.Imports {
			path, err := strconv.Unquote(spec.Path.Value)
			if err != nil {
				t.Fatal(err)
			}
			all = append(all, path)
		}
	}
	return all
}

func TestLayersCallThoseOfTheMap(t *testing.T) {
	for layer, allowed := range calls {
		for _, path := range imports(t, layer) {
			name, own := strings.CutPrefix(path, "hatchway/")
			switch {
			case !own && !slices.Contains(library, path):
				t.Errorf("%s imports %s: the language has it not", layer, path)
			case own && calls[name] != nil && name != "api" && !slices.Contains(allowed, name):
				t.Errorf("%s imports %s: the map has it not", layer, name)
			}
		}
	}
}
