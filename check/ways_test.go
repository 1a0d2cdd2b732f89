package check_test

import (
	"go/ast"
	"go/parser"
	"go/token"
	"go/types"
	"testing"
)

// The way of check: its table is an array that a range over an integer fills.
func TestTableIsAnArrayThatARangeFills(t *testing.T) {
	fset := token.NewFileSet()
	file, err := parser.ParseFile(fset, "check.go", nil, 0)
	if err != nil {
		t.Fatal(err)
	}
	info := &types.Info{Types: map[ast.Expr]types.TypeAndValue{}}
	if _, err := new(types.Config).Check("tarry/check", fset, []*ast.File{file}, info); err != nil {
		t.Fatal(err)
	}
	filled := false
	ast.Inspect(file, func(n ast.Node) bool {
		if loop, ok := n.(*ast.RangeStmt); ok && isInteger(info.TypeOf(loop.X)) {
			filled = filled || fillsArray(loop.Body, info)
		}
		return true
	})
	if !filled {
		t.Error("no range over an integer fills an array")
	}
}

func isInteger(t types.Type) bool {
	b, ok := t.Underlying().(*types.Basic)
	return ok && b.Info()&types.IsInteger != 0
}

// fillsArray tells whether an array's element is assigned to in a loop.
func fillsArray(body *ast.BlockStmt, info *types.Info) bool {
	found := false
	ast.Inspect(body, func(n ast.Node) bool {
		assign, ok := n.(*ast.AssignStmt)
		if !ok {
			return true
		}
		for _, e := range assign.Lhs {
			if at, ok := e.(*ast.IndexExpr); ok {
				_, array := info.TypeOf(at.X).Underlying().(*types.Array)
				found = found || array
			}
		}
		return true
	})
	return found
}
