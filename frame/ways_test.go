package frame_test

import (
	"go/ast"
	"go/importer"
	"go/parser"
	"go/token"
	"go/types"
	"path/filepath"
	"strings"
	"testing"
)

// sources brings packages from their text: the project's own from beside this one, others from the library.
type sources struct {
	fset    *token.FileSet
	library types.Importer
	brought map[string]*types.Package
}

func (s sources) Import(path string) (*types.Package, error) {
	name, own := strings.CutPrefix(path, "tarry/")
	if !own {
		return s.library.Import(path)
	}
	if p := s.brought[path]; p != nil {
		return p, nil
	}
	files, err := s.parse(filepath.Join("..", name))
	if err != nil {
		return nil, err
	}
	config := types.Config{Importer: s}
	s.brought[path], err = config.Check(path, s.fset, files, nil)
	return s.brought[path], err
}

// parse reads a folder's files that are no tests.
func (s sources) parse(folder string) ([]*ast.File, error) {
	names, err := filepath.Glob(filepath.Join(folder, "*.go"))
	if err != nil {
		return nil, err
	}
	var files []*ast.File
	for _, name := range names {
		if strings.HasSuffix(name, "_test.go") {
			continue
		}
		file, err := parser.ParseFile(s.fset, name, nil, 0)
		if err != nil {
			return nil, err
		}
		files = append(files, file)
	}
	return files, nil
}

// The way of frame: Scan is handed its records by an iterator of the package's own.
func TestRecordsAreHandedOnByAnIterator(t *testing.T) {
	fset := token.NewFileSet()
	s := sources{fset, importer.ForCompiler(fset, "source", nil), map[string]*types.Package{}}
	files, err := s.parse(".")
	if err != nil {
		t.Fatal(err)
	}
	info := &types.Info{Types: map[ast.Expr]types.TypeAndValue{}, Uses: map[*ast.Ident]types.Object{}}
	config := types.Config{Importer: s}
	own, err := config.Check("tarry/frame", fset, files, info)
	if err != nil {
		t.Fatal(err)
	}
	found := false
	for _, file := range files {
		for _, d := range file.Decls {
			if f, ok := d.(*ast.FuncDecl); ok && f.Name.Name == "Scan" {
				found = found || rangesOverRecords(f, own, info)
			}
		}
	}
	if !found {
		t.Error("Scan ranges over no iterator that hands on texts")
	}
}

// rangesOverRecords tells whether a function ranges over what another one of its package answers, an iterator whose first value is a text.
func rangesOverRecords(f *ast.FuncDecl, own *types.Package, info *types.Info) bool {
	found := false
	ast.Inspect(f, func(n ast.Node) bool {
		loop, ok := n.(*ast.RangeStmt)
		if !ok {
			return true
		}
		if call, ok := loop.X.(*ast.CallExpr); ok && handsOnTexts(info.TypeOf(loop.X)) {
			if name, ok := call.Fun.(*ast.Ident); ok {
				found = found || info.Uses[name].Pkg() == own
			}
		}
		return true
	})
	return found
}

func handsOnTexts(t types.Type) bool {
	f, ok := t.Underlying().(*types.Signature)
	if !ok || f.Params().Len() != 1 {
		return false
	}
	yield, ok := f.Params().At(0).Type().Underlying().(*types.Signature)
	return ok && yield.Params().Len() > 0 && yield.Params().At(0).Type().String() == "string"
}
