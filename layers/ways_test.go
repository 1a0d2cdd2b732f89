package layers_test

import (
	"go/ast"
	"go/importer"
	"go/parser"
	"go/token"
	"go/types"
	"path/filepath"
	"slices"
	"strings"
	"testing"
)

// program is a layer's own: the functions and methods that it declares, and what their words mean.
type program struct {
	functions []*ast.FuncDecl
	info      *types.Info
}

// read reads a layer's program, without its tests.
func read(t *testing.T, layer string) program {
	t.Helper()
	names, err := filepath.Glob(filepath.Join("..", layer, "*.go"))
	if err != nil {
		t.Fatal(err)
	}
	fset := token.NewFileSet()
	var files []*ast.File
	var p program
	for _, name := range names {
		if strings.HasSuffix(name, "_test.go") {
			continue
		}
		file, err := parser.ParseFile(fset, name, nil, 0)
		if err != nil {
			t.Fatal(err)
		}
		files = append(files, file)
		for _, d := range file.Decls {
			if f, ok := d.(*ast.FuncDecl); ok {
				p.functions = append(p.functions, f)
			}
		}
	}
	p.info = &types.Info{Types: map[ast.Expr]types.TypeAndValue{}, Uses: map[*ast.Ident]types.Object{}, Selections: map[*ast.SelectorExpr]*types.Selection{}}
	config := types.Config{Importer: importer.ForCompiler(fset, "source", nil)}
	if _, err := config.Check("tarry/"+layer, fset, files, p.info); err != nil {
		t.Fatal(err)
	}
	return p
}

// has tells whether there is such a thing in any function.
func (p program) has(is func(f *ast.FuncDecl, n ast.Node) bool) bool {
	found := false
	for _, f := range p.functions {
		ast.Inspect(f, func(n ast.Node) bool {
			found = found || n != nil && is(f, n)
			return !found
		})
	}
	return found
}

// names tells whether a name of another package is named.
func (p program) names(path, name string) bool {
	return p.has(func(_ *ast.FuncDecl, n ast.Node) bool {
		e, ok := n.(ast.Expr)
		return ok && p.isNamed(e, path, name)
	})
}

// isNamed tells whether that is a name of another package.
func (p program) isNamed(e ast.Expr, path, name string) bool {
	x, ok := e.(*ast.SelectorExpr)
	if !ok {
		return false
	}
	o := p.info.Uses[x.Sel]
	return o != nil && o.Name() == name && o.Pkg() != nil && o.Pkg().Path() == path
}

// The way of queue: the heap is the library's, over a type whose methods are called through an interface; the one by which a wait is pushed asserts that it is one.
func TestQueueHasTheLibrarysHeap(t *testing.T) {
	p := read(t, "queue")
	for _, name := range []string{"Init", "Push", "Pop"} {
		if !p.names("container/heap", name) {
			t.Errorf("the library's heap is not asked: %s", name)
		}
	}
	if !p.has(func(_ *ast.FuncDecl, n ast.Node) bool {
		x, ok := n.(*ast.SelectorExpr)
		if !ok {
			return false
		}
		s := p.info.Selections[x]
		return s != nil && s.Kind() == types.MethodVal && types.IsInterface(s.Recv())
	}) {
		t.Error("no method is called through an interface")
	}
	if !p.has(func(f *ast.FuncDecl, n ast.Node) bool {
		x, ok := n.(*ast.TypeAssertExpr)
		return ok && x.Type != nil && f.Recv != nil && f.Name.Name == "Push"
	}) {
		t.Error("nothing is asserted of what is pushed")
	}
}

// The way of goods: rows are put together by a generic function, which a closure tells how they stand.
func TestGoodsHasAGenericFunctionToldByAClosure(t *testing.T) {
	p := read(t, "goods")
	for _, row := range []string{"Skus", "Subs"} {
		if !p.has(func(_ *ast.FuncDecl, n ast.Node) bool {
			call, ok := n.(*ast.CallExpr)
			return ok && p.isGenericOfItsOwn(call) && p.answersRow(call) && hasArgument(call, isField(row)) && hasArgument(call, isClosure)
		}) {
			t.Errorf("%s are not put together so", row)
		}
	}
}

// The way of stock: where units go from and to is told by pointers to numbers, which a closure picks for each call.
func TestStockHasPointersPickedByAClosure(t *testing.T) {
	p := read(t, "stock")
	for _, call := range []string{"Hold", "Release", "Ship", "Lose"} {
		if !p.has(func(f *ast.FuncDecl, n ast.Node) bool {
			x, ok := n.(*ast.CallExpr)
			return ok && f.Name.Name == call && hasArgument(x, p.picksTwoPointers)
		}) {
			t.Errorf("%s does not go so", call)
		}
	}
}

// The way of waits: a line's place in the sorted row is sought by a method value, which the library's search of sorted rows is handed.
func TestWaitsIsSoughtByAMethodValue(t *testing.T) {
	p := read(t, "waits")
	if !p.has(func(_ *ast.FuncDecl, n ast.Node) bool {
		call, ok := n.(*ast.CallExpr)
		return ok && p.isNamed(call.Fun, "sort", "Search") && hasArgument(call, p.isMethodValue)
	}) {
		t.Error("it is not sought so")
	}
}

// The way of timer: which ones are due is told by a generic function that parts a row in two.
func TestTimerPartsByAGenericFunction(t *testing.T) {
	p := read(t, "timer")
	if !p.has(func(f *ast.FuncDecl, n ast.Node) bool {
		call, ok := n.(*ast.CallExpr)
		return ok && f.Name.Name == "Due" && p.isGenericOfItsOwn(call) && p.answersTwoRows(call)
	}) {
		t.Error("Due is not told so")
	}
}

// The way of pay: what is done to money is told by a generic function, which is handed the money and a closure, and asks first.
func TestPayIsToldByAGenericFunctionThatAsksFirst(t *testing.T) {
	p := read(t, "pay")
	for _, call := range []string{"Lapse", "Renew", "Catch", "Close"} {
		if !p.has(func(f *ast.FuncDecl, n ast.Node) bool {
			x, ok := n.(*ast.CallExpr)
			return ok && f.Name.Name == call && p.isGenericOfItsOwn(x) && hasArgument(x, isClosure)
		}) {
			t.Errorf("%s is not told so", call)
		}
	}
	if !p.has(func(f *ast.FuncDecl, n ast.Node) bool {
		x, ok := n.(*ast.IfStmt)
		return ok && f.Type.TypeParams != nil && f.Body.List[0] == x && asks(x, "Right")
	}) {
		t.Error("it does not ask first")
	}
}

// The way of ask: what an answer makes stands in a map, which is asked by what the customer said, and has both states.
func TestAskHasAMapOfAnswers(t *testing.T) {
	p := read(t, "ask")
	if !p.has(func(f *ast.FuncDecl, n ast.Node) bool {
		x, ok := n.(*ast.IndexExpr)
		return ok && f.Name.Name == "Answer" && p.isMap(x.X) && p.isParameter(f, x.Index)
	}) {
		t.Error("Answer does not ask it")
	}
	if !p.has(func(_ *ast.FuncDecl, n ast.Node) bool {
		x, ok := n.(*ast.CompositeLit)
		return ok && p.isMap(x) && p.hasValue(x, "AYes") && p.hasValue(x, "ANo")
	}) {
		t.Error("no map has yes and no")
	}
}

// The way of order: what is asked of each phase stands in an array of closures, one a phase, which is asked by an order's phase.
func TestOrderHasAnArrayOfClosures(t *testing.T) {
	p := read(t, "order")
	if !p.has(func(_ *ast.FuncDecl, n ast.Node) bool {
		x, ok := n.(*ast.IndexExpr)
		return ok && p.isArrayOfFunctions(x.X) && isField("Phase")(x.Index)
	}) {
		t.Error("it is not asked so")
	}
	for _, phase := range []string{"PWait", "PSend", "PDone", "PPart", "PCancel"} {
		if !p.has(func(_ *ast.FuncDecl, n ast.Node) bool {
			x, ok := n.(*ast.CompositeLit)
			return ok && p.isArrayOfFunctions(x) && p.hasClosure(x, phase)
		}) {
			t.Errorf("no closure is asked of %s", phase)
		}
	}
}

// The ways of outbox: what Tell tells is handed on by an iterator of its own; rows are sought, by Put, Done and Find, by a generic function that answers one of them.
func TestOutboxHandsOnAndSeeks(t *testing.T) {
	p := read(t, "outbox")
	if !p.has(func(f *ast.FuncDecl, n ast.Node) bool {
		x, ok := n.(*ast.RangeStmt)
		return ok && f.Name.Name == "Tell" && p.isOfItsOwn(x.X) && p.handsOn(x.X, "tarry/api.Out")
	}) {
		t.Error("Tell does not hand on so")
	}
	for _, call := range []string{"Put", "Done", "Find"} {
		if !p.leadsTo(call, func(_ *ast.FuncDecl, n ast.Node) bool {
			x, ok := n.(*ast.CallExpr)
			return ok && p.isGenericOfItsOwn(x) && hasArgument(x, p.isRowOf("tarry/api.Out")) && hasArgument(x, p.isFunction)
		}) {
			t.Errorf("%s does not seek so", call)
		}
	}
}

// The ways of net: Take, Twice and Last pick a parcel out of a row that is cut in three, each part with no more room than itself; they put parts together again by a variadic function of its own.
func TestNetCutsInThreeAndPutsTogether(t *testing.T) {
	p := read(t, "net")
	for _, call := range []string{"Take", "Twice", "Last"} {
		if !p.leadsTo(call, func(_ *ast.FuncDecl, n ast.Node) bool {
			x, ok := n.(*ast.ReturnStmt)
			return ok && count(x.Results, p.isCutOf("tarry/api.Parcel")) == 3
		}) {
			t.Errorf("%s does not cut in three", call)
		}
		if !p.has(func(f *ast.FuncDecl, n ast.Node) bool {
			x, ok := n.(*ast.CallExpr)
			return ok && f.Name.Name == call && p.isOfItsOwn(x) && p.isVariadic(x) && count(x.Args, p.isRowOf("tarry/api.Parcel")) >= 2
		}) {
			t.Errorf("%s does not put together so", call)
		}
	}
}

// The ways of state: all rows that Read reads are read by a generic function of its own; what is odd in one is panicked, below it, and Read alone recovers it.
func TestStateReadsRowsAndPanicsOfWhatIsOdd(t *testing.T) {
	p := read(t, "state")
	for _, row := range []string{"Sub", "Row", "Order", "Out"} {
		if !p.leadsTo("Read", func(_ *ast.FuncDecl, n ast.Node) bool {
			x, ok := n.(*ast.CallExpr)
			return ok && p.isGenericOfItsOwn(x) && p.isRowOf("tarry/api."+row)(x)
		}) {
			t.Errorf("rows of %s are not read so", row)
		}
	}
	if !p.leadsTo("rowsOf", func(f *ast.FuncDecl, n ast.Node) bool {
		return f.Name.Name != "Read" && p.isCallOf(n, "panic")
	}) {
		t.Error("what is odd in a row is not panicked")
	}
	if !p.has(func(f *ast.FuncDecl, n ast.Node) bool {
		x, ok := n.(*ast.DeferStmt)
		return ok && f.Name.Name == "Read" && isClosure(x.Call.Fun) && p.holds(x.Call.Fun, "recover")
	}) {
		t.Error("Read does not recover it")
	}
}

// isCallOf tells whether one of the language's own functions is called.
func (p program) isCallOf(n ast.Node, name string) bool {
	call, ok := n.(*ast.CallExpr)
	if !ok {
		return false
	}
	f, ok := call.Fun.(*ast.Ident)
	if !ok {
		return false
	}
	o, ok := p.info.Uses[f].(*types.Builtin)
	return ok && o.Name() == name
}

// holds tells whether one of the language's own functions is called somewhere in that.
func (p program) holds(within ast.Node, name string) bool {
	found := false
	ast.Inspect(within, func(n ast.Node) bool {
		found = found || p.isCallOf(n, name)
		return !found
	})
	return found
}

// isCutOf tells whether that is a row's part that is told how much room it has.
func (p program) isCutOf(name string) func(ast.Expr) bool {
	return func(e ast.Expr) bool {
		x, ok := e.(*ast.SliceExpr)
		return ok && x.Slice3 && p.isRowOf(name)(x)
	}
}

func (p program) isVariadic(call *ast.CallExpr) bool {
	f, ok := p.info.Types[call.Fun].Type.Underlying().(*types.Signature)
	return ok && f.Variadic()
}

func count(l []ast.Expr, is func(ast.Expr) bool) int {
	n := 0
	for _, e := range l {
		if is(e) {
			n++
		}
	}
	return n
}

// leadsTo tells whether there is such a thing in a function, or in one that it calls.
func (p program) leadsTo(name string, is func(f *ast.FuncDecl, n ast.Node) bool) bool {
	return p.has(func(f *ast.FuncDecl, n ast.Node) bool {
		if f.Name.Name != name {
			return false
		}
		call, ok := n.(*ast.CallExpr)
		if !ok {
			return is(f, n)
		}
		inner, ok := call.Fun.(*ast.Ident)
		return is(f, n) || ok && inner.Name != name && p.leadsTo(inner.Name, is)
	})
}

// isOfItsOwn tells whether that is the answer of a function that the program itself declares.
func (p program) isOfItsOwn(e ast.Expr) bool {
	call, ok := e.(*ast.CallExpr)
	if !ok {
		return false
	}
	name, ok := call.Fun.(*ast.Ident)
	return ok && slices.ContainsFunc(p.functions, func(f *ast.FuncDecl) bool { return f.Name.Name == name.Name })
}

// handsOn tells whether that is an iterator whose last value is of a type.
func (p program) handsOn(e ast.Expr, name string) bool {
	f, ok := p.info.Types[e].Type.Underlying().(*types.Signature)
	if !ok || f.Params().Len() != 1 {
		return false
	}
	yield, ok := f.Params().At(0).Type().Underlying().(*types.Signature)
	if !ok || yield.Params().Len() == 0 {
		return false
	}
	return yield.Params().At(yield.Params().Len()-1).Type().String() == name
}

func (p program) isRowOf(name string) func(ast.Expr) bool {
	return func(e ast.Expr) bool {
		row, ok := p.info.Types[e].Type.Underlying().(*types.Slice)
		return ok && row.Elem().String() == name
	}
}

func (p program) isFunction(e ast.Expr) bool {
	_, ok := p.info.Types[e].Type.Underlying().(*types.Signature)
	return ok
}

func (p program) isArrayOfFunctions(e ast.Expr) bool {
	row, ok := p.info.Types[e].Type.Underlying().(*types.Array)
	if !ok {
		return false
	}
	_, ok = row.Elem().Underlying().(*types.Signature)
	return ok
}

// hasClosure tells whether a literal has a closure at the place that a constant of api names.
func (p program) hasClosure(x *ast.CompositeLit, name string) bool {
	return slices.ContainsFunc(x.Elts, func(e ast.Expr) bool {
		pair, ok := e.(*ast.KeyValueExpr)
		return ok && p.isNamed(pair.Key, "tarry/api", name) && isClosure(pair.Value)
	})
}

func (p program) isMap(e ast.Expr) bool {
	_, ok := p.info.Types[e].Type.Underlying().(*types.Map)
	return ok
}

// isParameter tells whether that is what a function is handed.
func (p program) isParameter(f *ast.FuncDecl, e ast.Expr) bool {
	name, ok := e.(*ast.Ident)
	if !ok {
		return false
	}
	o := p.info.Uses[name]
	return o != nil && f.Type.Params.Pos() <= o.Pos() && o.Pos() < f.Type.Params.End()
}

// hasValue tells whether a map's literal has a constant of api as a value.
func (p program) hasValue(x *ast.CompositeLit, name string) bool {
	return slices.ContainsFunc(x.Elts, func(e ast.Expr) bool {
		pair, ok := e.(*ast.KeyValueExpr)
		return ok && p.isNamed(pair.Value, "tarry/api", name)
	})
}

// asks tells whether what a statement hangs on is a call's answer.
func asks(x *ast.IfStmt, call string) bool {
	found := false
	ast.Inspect(x.Cond, func(n ast.Node) bool {
		c, ok := n.(*ast.CallExpr)
		if !ok {
			return true
		}
		name, ok := c.Fun.(*ast.Ident)
		found = found || ok && name.Name == call
		return true
	})
	return found
}

// isMethodValue tells whether a method is handed on, and not called.
func (p program) isMethodValue(e ast.Expr) bool {
	x, ok := e.(*ast.SelectorExpr)
	if !ok {
		return false
	}
	s := p.info.Selections[x]
	return s != nil && s.Kind() == types.MethodVal
}

// picksTwoPointers tells whether a closure answers two pointers to numbers.
func (p program) picksTwoPointers(e ast.Expr) bool {
	f, ok := p.info.Types[e].Type.(*types.Signature)
	if !ok || !isClosure(e) || f.Results().Len() != 2 {
		return false
	}
	number := types.NewPointer(types.Typ[types.Int])
	return types.Identical(f.Results().At(0).Type(), number) && types.Identical(f.Results().At(1).Type(), number)
}

// isGenericOfItsOwn tells whether a generic function is called that the program itself declares.
func (p program) isGenericOfItsOwn(call *ast.CallExpr) bool {
	name, ok := ast.Unparen(call.Fun).(*ast.Ident)
	if !ok {
		return false
	}
	f, ok := p.info.Uses[name].(*types.Func)
	return ok && f.Signature().TypeParams().Len() > 0
}

func (p program) answersRow(call *ast.CallExpr) bool {
	_, ok := p.info.Types[call].Type.Underlying().(*types.Slice)
	return ok
}

func (p program) answersTwoRows(call *ast.CallExpr) bool {
	both, ok := p.info.Types[call].Type.(*types.Tuple)
	if !ok || both.Len() != 2 {
		return false
	}
	for one := range both.Variables() {
		if _, ok := one.Type().Underlying().(*types.Slice); !ok {
			return false
		}
	}
	return true
}

func hasArgument(call *ast.CallExpr, is func(ast.Expr) bool) bool {
	return slices.ContainsFunc(call.Args, is)
}

func isClosure(e ast.Expr) bool {
	_, ok := e.(*ast.FuncLit)
	return ok
}

func isField(name string) func(ast.Expr) bool {
	return func(e ast.Expr) bool {
		x, ok := e.(*ast.SelectorExpr)
		return ok && x.Sel.Name == name
	}
}
