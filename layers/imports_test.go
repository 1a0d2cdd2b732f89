package layers_test

import (
	"go/parser"
	"go/token"
	"path/filepath"
	"slices"
	"strconv"
	"strings"
	"testing"
)

// calls is the document's map: of each layer the packages that it may call.
const calls = `
api
pack: api
check: api
disk: api
frame: api check pack
journal: api disk frame
queue: api
goods: api
stock: api goods
waits: api goods queue
timer: api
pay: api pack
ask: api
order: api ask goods pay queue
outbox: api
net: api
state: api goods order outbox pack stock timer waits
grant: api ask goods order outbox pay state stock waits
saga: api ask order outbox pay state stock
shop: api goods grant outbox pack saga state stock
store: api journal shop state
script: api net shop store
`

// library is all that the language's rules let the program use of it.
const library = "bytes cmp container/heap errors iter maps math math/bits slices sort strconv strings sync sync/atomic unicode unicode/utf8"

// TestImports tells of what a layer imports beyond the map and the library's packages that it may use.
func TestImports(t *testing.T) {
	for _, line := range strings.Split(strings.TrimSpace(calls), "\n") {
		layer, below, _ := strings.Cut(line, ":")
		may := strings.Fields(library)
		for _, p := range strings.Fields(below) {
			may = append(may, "tarry/"+p)
		}
		files, err := filepath.Glob(filepath.Join("..", layer, "*.go"))
		if err != nil || len(files) == 0 {
			t.Errorf("%s: %d files, %v", layer, len(files), err)
		}
		for _, f := range files {
			for _, p := range imports(t, f) {
				if !slices.Contains(may, p) {
					t.Errorf("%s imports %s", f, p)
				}
			}
		}
	}
}

// imports are those of a file that is no test, which may use all.
func imports(t *testing.T, file string) []string {
	t.Helper()
	if strings.HasSuffix(file, "_test.go") {
		return nil
	}
	parsed, err := parser.ParseFile(token.NewFileSet(), file, nil, parser.ImportsOnly)
	if err != nil {
		t.Fatal(err)
	}
	var paths []string
	for _, i := range parsed.Imports {
		p, err := strconv.Unquote(i.Path.Value)
		if err != nil {
			t.Fatal(err)
		}
		paths = append(paths, p)
	}
	return paths
}
