package disk_test

import (
	"go/ast"
	"go/importer"
	"go/parser"
	"go/token"
	"go/types"
	"testing"
)

// sources brings packages from their text: the project's own from beside this one, others from the library.
type sources struct {
	fset    *token.FileSet
	library types.Importer
}

func (s sources) Import(path string) (*types.Package, error) {
	if path != "tarry/api" {
		return s.library.Import(path)
	}
	file, err := parser.ParseFile(s.fset, "../api/api.go", nil, 0)
	if err != nil {
		return nil, err
	}
	return new(types.Config).Check(path, s.fset, []*ast.File{file}, nil)
}

// The ways of disk: a torn sector's first bytes are copied, and writes are gone through by an iterator.
func TestWays(t *testing.T) {
	fset := token.NewFileSet()
	file, err := parser.ParseFile(fset, "disk.go", nil, 0)
	if err != nil {
		t.Fatal(err)
	}
	info := &types.Info{Types: map[ast.Expr]types.TypeAndValue{}, Uses: map[*ast.Ident]types.Object{}}
	config := types.Config{Importer: sources{fset, importer.ForCompiler(fset, "source", nil)}}
	if _, err := config.Check("tarry/disk", fset, []*ast.File{file}, info); err != nil {
		t.Fatal(err)
	}
	copies, iterates := false, false
	ast.Inspect(file, func(n ast.Node) bool {
		switch x := n.(type) {
		case *ast.CallExpr:
			if f, ok := x.Fun.(*ast.Ident); ok {
				copies = copies || info.Uses[f] == types.Universe.Lookup("copy")
			}
		case *ast.RangeStmt:
			iterates = iterates || handsOnWrites(info.TypeOf(x.X))
		}
		return true
	})
	if !copies {
		t.Error("nothing is copied")
	}
	if !iterates {
		t.Error("no range over a function goes through writes")
	}
}

// handsOnWrites tells whether a type is an iterator's, whose last value is a write.
func handsOnWrites(t types.Type) bool {
	f, ok := t.Underlying().(*types.Signature)
	if !ok || f.Params().Len() != 1 {
		return false
	}
	yield, ok := f.Params().At(0).Type().Underlying().(*types.Signature)
	if !ok || yield.Params().Len() == 0 {
		return false
	}
	return yield.Params().At(yield.Params().Len()-1).Type().String() == "tarry/api.Write"
}
