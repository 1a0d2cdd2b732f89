package journal_test

import (
	"go/ast"
	"go/importer"
	"go/parser"
	"go/token"
	"go/types"
	"path/filepath"
	"strings"
	"testing"

	"tarry/api"
)

// The way of journal: a head is an array of as many bytes as a sector has, and two of them are compared as such.
func TestHeadsAreArraysComparedAsSuch(t *testing.T) {
	names, err := filepath.Glob("*.go")
	if err != nil {
		t.Fatal(err)
	}
	fset := token.NewFileSet()
	var files []*ast.File
	for _, name := range names {
		if strings.HasSuffix(name, "_test.go") {
			continue
		}
		file, err := parser.ParseFile(fset, name, nil, 0)
		if err != nil {
			t.Fatal(err)
		}
		files = append(files, file)
	}
	info := &types.Info{Types: map[ast.Expr]types.TypeAndValue{}}
	config := types.Config{Importer: importer.ForCompiler(fset, "source", nil)}
	if _, err := config.Check("tarry/journal", fset, files, info); err != nil {
		t.Fatal(err)
	}
	compared := false
	for _, file := range files {
		ast.Inspect(file, func(n ast.Node) bool {
			if x, ok := n.(*ast.BinaryExpr); ok && (x.Op == token.EQL || x.Op == token.NEQ) {
				compared = compared || isSectorArray(info.TypeOf(x.X)) && isSectorArray(info.TypeOf(x.Y))
			}
			return true
		})
	}
	if !compared {
		t.Error("no two arrays of a sector's bytes are compared")
	}
}

func isSectorArray(t types.Type) bool {
	a, ok := t.Underlying().(*types.Array)
	return ok && a.Len() == api.Sector && types.Identical(a.Elem(), types.Typ[types.Uint8])
}
