package rules

import (
	"go/ast"
	"go/parser"
	"go/token"
	"go/types"
	"maps"
	"strings"
	"testing"
)

// Go leaves open whether a statement reads a variable ahead of a call in the
// same statement or behind it. No answer may hang on that: so no statement of
// the program may read what a call in it changes. The compiler at hand always
// takes the same order, and no input can show the fault: this looks at the
// program's text instead. What a call may change is told by fields and by
// kinds of elements, so that it is rather too much than too little.

// places is what is read or changed: variables and fields (*types.Var), and
// elements (the text of their type).
type places map[any]bool

// within lays all fields of a struct to the places: who reads or changes it as
// a whole, reads or changes them.
func (p places) within(t types.Type) {
	fields, ok := t.Underlying().(*types.Struct)
	if !ok {
		return
	}
	for field := range fields.Fields() {
		p[field.Origin()] = true
		p.within(field.Type())
	}
}

// element lays what lies in a list, behind a pointer or in a map to the places.
func (p places) element(t types.Type) {
	var inner types.Type
	switch kind := t.Underlying().(type) {
	case *types.Slice:
		inner = kind.Elem()
	case *types.Array:
		inner = kind.Elem()
	case *types.Pointer:
		inner = kind.Elem()
	case *types.Map:
		inner = kind.Elem()
	default:
		return
	}
	if array, ok := inner.Underlying().(*types.Array); ok {
		p.element(array)
	}
	p["element "+inner.String()] = true
	p.within(inner)
}

// orders looks for statements that hang on an open order.
type orders struct {
	*program
	// changes is what a function of the program may change, by the function;
	// by nil, what any function may that is called as a value.
	changes map[types.Object]places
	faults  []string
}

func newOrders(p *program) *orders {
	o := &orders{program: p, changes: map[types.Object]places{nil: {}}}
	for done := false; !done; { // what is called changes what its caller changes
		done = true
		for _, files := range p.files {
			for _, file := range files {
				for _, decl := range file.Decls {
					if f, ok := decl.(*ast.FuncDecl); ok && o.grows(p.info.Defs[f.Name], f) {
						done = false
					}
				}
			}
		}
	}
	return o
}

// grows adds what a function changes, and tells whether some of it is new.
func (o *orders) grows(name types.Object, f *ast.FuncDecl) bool {
	found := places{}
	called := map[*ast.Ident]bool{}
	literals := false
	ast.Inspect(f.Body, func(n ast.Node) bool {
		switch x := n.(type) {
		case *ast.AssignStmt:
			for _, target := range x.Lhs {
				o.target(target, found)
			}
		case *ast.IncDecStmt:
			o.target(x.X, found)
		case *ast.RangeStmt:
			o.target(x.Key, found)
			o.target(x.Value, found)
		case *ast.CallExpr:
			called[nameOf(x.Fun)] = true
			maps.Copy(found, o.callChanges(x))
		case *ast.FuncLit:
			literals = true
		}
		return true
	})
	before := len(o.changes[name]) + len(o.changes[nil])
	if o.changes[name] == nil {
		o.changes[name] = places{}
	}
	maps.Copy(o.changes[name], found)
	if literals {
		maps.Copy(o.changes[nil], found)
	}
	ast.Inspect(f.Body, func(n ast.Node) bool {
		if use, ok := n.(*ast.Ident); ok && !called[use] {
			if value, ok := o.info.Uses[use].(*types.Func); ok {
				maps.Copy(o.changes[nil], o.changes[value.Origin()])
			}
		}
		return true
	})
	return len(o.changes[name])+len(o.changes[nil]) != before
}

// nameOf is the name of what is called; nil, if it has none.
func nameOf(fun ast.Expr) *ast.Ident {
	switch x := fun.(type) {
	case *ast.Ident:
		return x
	case *ast.SelectorExpr:
		return x.Sel
	case *ast.ParenExpr:
		return nameOf(x.X)
	case *ast.IndexExpr:
		return nameOf(x.X)
	}
	return nil
}

// target adds what an assignment changes.
func (o *orders) target(e ast.Expr, found places) {
	switch x := e.(type) {
	case *ast.ParenExpr:
		o.target(x.X, found)
	case *ast.Ident:
		if v, ok := o.info.Uses[x].(*types.Var); ok {
			found[v] = true
			found.within(v.Type())
		}
	case *ast.SelectorExpr:
		if v, ok := o.info.Uses[x.Sel].(*types.Var); ok {
			found[v.Origin()] = true
			found.within(v.Type())
		}
		o.target(x.X, found)
	case *ast.IndexExpr:
		found.element(o.info.Types[x.X].Type)
	case *ast.StarExpr:
		found.element(o.info.Types[x.X].Type)
	}
}

// callChanges is what a call may change: of a function of the program what
// that one changes, of the library's what lies in what it is given.
func (o *orders) callChanges(call *ast.CallExpr) places {
	found := places{}
	if o.info.Types[call.Fun].IsType() {
		return found
	}
	for _, arg := range call.Args {
		if unary, ok := arg.(*ast.UnaryExpr); ok && unary.Op == token.AND {
			o.target(unary.X, found)
		}
	}
	selector, _ := ast.Unparen(call.Fun).(*ast.SelectorExpr)
	name := nameOf(call.Fun)
	switch f := o.info.Uses[name].(type) {
	case *types.Builtin:
		if strings.Contains(" append clear copy delete ", " "+f.Name()+" ") {
			found.element(o.info.Types[call.Args[0]].Type)
		}
	case *types.Func:
		switch {
		case selector != nil && types.IsInterface(o.receiver(selector)):
			maps.Copy(found, o.methods(f.Name()))
		case o.isOurs(f):
			maps.Copy(found, o.changes[f.Origin()])
		default:
			maps.Copy(found, o.given(call))
			if selector != nil {
				o.target(selector.X, found) // as a Builder's Write does
			}
		}
	default:
		maps.Copy(found, o.changes[nil])
	}
	return found
}

// receiver is what a method is called on.
func (o *orders) receiver(x *ast.SelectorExpr) types.Type {
	if s := o.info.Selections[x]; s != nil {
		return s.Recv()
	}
	return types.Typ[types.Invalid]
}

func (o *orders) isOurs(f *types.Func) bool {
	return f.Pkg() != nil && o.files[f.Pkg().Path()] != nil
}

// given is what a function of the library may change by what it is given.
func (o *orders) given(call *ast.CallExpr) places {
	found := places{}
	for _, arg := range call.Args {
		t := o.info.Types[arg].Type
		found.element(t)
		if _, ok := t.Underlying().(*types.Signature); ok {
			maps.Copy(found, o.changes[nil])
		}
	}
	return found
}

// methods is what all methods of a name change together.
func (o *orders) methods(name string) places {
	found := places{}
	for f, changes := range o.changes {
		if f != nil && f.Name() == name {
			maps.Copy(found, changes)
		}
	}
	return found
}

// parts is what a part of a statement reads, and what its calls change.
type parts struct {
	reads, changes places
}

// beside puts parts together whose order is open.
func (o *orders) beside(n ast.Node, all ...parts) parts {
	sum := parts{places{}, places{}}
	for i, a := range all {
		for k, b := range all {
			for place := range a.reads {
				if i != k && b.changes[place] {
					o.fault(n, place)
				}
			}
		}
		maps.Copy(sum.reads, a.reads)
		maps.Copy(sum.changes, a.changes)
	}
	return sum
}

func (o *orders) fault(n ast.Node, place any) {
	what, ok := place.(string)
	if v, isVar := place.(*types.Var); isVar {
		what, ok = v.Name(), true
	}
	if ok {
		o.faults = append(o.faults, o.set.Position(n.Pos()).String()+": "+what)
	}
}

// then puts parts together of which one comes behind the other.
func then(a, b parts) parts {
	sum := parts{maps.Clone(a.reads), maps.Clone(a.changes)}
	maps.Copy(sum.reads, b.reads)
	maps.Copy(sum.changes, b.changes)
	return sum
}

func (o *orders) list(n ast.Node, list []ast.Expr) parts {
	all := make([]parts, len(list))
	for i, e := range list {
		all[i] = o.expression(e)
	}
	return o.beside(n, all...)
}

// expression goes through an expression.
func (o *orders) expression(e ast.Expr) parts {
	switch x := e.(type) {
	case nil, *ast.BasicLit, *ast.FuncLit:
		return parts{places{}, places{}}
	case *ast.BinaryExpr:
		if x.Op == token.LAND || x.Op == token.LOR {
			return then(o.expression(x.X), o.expression(x.Y))
		}
		return o.list(x, []ast.Expr{x.X, x.Y})
	case *ast.CallExpr:
		inner := o.list(x, append([]ast.Expr{x.Fun}, x.Args...))
		// A builtin function changes nothing but what it is given.
		if name, ok := x.Fun.(*ast.Ident); ok && o.isBuiltin(name) {
			return inner
		}
		return then(inner, parts{places{}, o.callChanges(x)})
	case *ast.Ident:
		return o.read(x, parts{places{}, places{}})
	case *ast.SelectorExpr:
		return o.read(x.Sel, o.base(x))
	case *ast.IndexExpr:
		if o.info.Types[x.X].IsValue() {
			inner := o.list(x, []ast.Expr{x.X, x.Index})
			inner.reads.element(o.info.Types[x.X].Type)
			return inner
		}
	case *ast.StarExpr:
		inner := o.expression(x.X)
		if t := o.info.Types[x]; t.IsValue() {
			inner.reads.element(o.info.Types[x.X].Type)
		}
		return inner
	case *ast.SliceExpr:
		return o.list(x, []ast.Expr{x.X, x.Low, x.High, x.Max})
	case *ast.ParenExpr:
		return o.expression(x.X)
	case *ast.UnaryExpr:
		if x.Op == token.AND {
			return o.written(x.X)
		}
		return o.expression(x.X)
	case *ast.TypeAssertExpr:
		return o.expression(x.X)
	case *ast.CompositeLit:
		return o.list(x, x.Elts)
	case *ast.KeyValueExpr:
		return o.expression(x.Value)
	}
	return parts{places{}, places{}}
}

func (o *orders) isBuiltin(name *ast.Ident) bool {
	_, ok := o.info.Uses[name].(*types.Builtin)
	return ok
}

// read adds the variable or the field that a name stands for.
func (o *orders) read(name *ast.Ident, inner parts) parts {
	if v, ok := o.info.Uses[name].(*types.Var); ok {
		inner.reads[v.Origin()] = true
		inner.reads.within(v.Type())
	}
	return inner
}

// base goes through what a field or a method is asked of: of a struct that is
// no more than what leads there, unless a method is given all of it.
func (o *orders) base(x *ast.SelectorExpr) parts {
	t := o.info.Types[x.X].Type
	if t == nil { // a package
		return parts{places{}, places{}}
	}
	_, isStruct := t.Underlying().(*types.Struct)
	if f, ok := o.info.Uses[x.Sel].(*types.Func); ok {
		_, byPointer := f.Signature().Recv().Type().(*types.Pointer)
		isStruct = isStruct && byPointer
	}
	if isStruct {
		return o.written(x.X)
	}
	return o.expression(x.X)
}

// written goes through what is assigned to: only what leads there is read.
func (o *orders) written(e ast.Expr) parts {
	switch x := e.(type) {
	case *ast.SelectorExpr:
		return o.base(x)
	case *ast.IndexExpr:
		if _, ok := o.info.Types[x.X].Type.Underlying().(*types.Array); ok {
			return o.beside(x, o.written(x.X), o.expression(x.Index))
		}
		return o.list(x, []ast.Expr{x.X, x.Index})
	case *ast.StarExpr:
		return o.expression(x.X)
	case *ast.ParenExpr:
		return o.written(x.X)
	}
	return parts{places{}, places{}}
}

// statement goes through what a statement evaluates at once.
func (o *orders) statement(n ast.Node) bool {
	switch x := n.(type) {
	case *ast.AssignStmt:
		all := []parts{o.list(x, x.Rhs)}
		for _, target := range x.Lhs {
			all = append(all, o.written(target))
			if x.Tok != token.ASSIGN && x.Tok != token.DEFINE { // as += does
				all = append(all, o.expression(target))
			}
		}
		o.beside(x, all...)
	case *ast.ReturnStmt:
		o.list(x, x.Results)
	case *ast.ExprStmt:
		o.expression(x.X)
	case *ast.IncDecStmt:
		o.expression(x.X)
	case *ast.IfStmt:
		o.expression(x.Cond)
	case *ast.ForStmt:
		o.expression(x.Cond)
	case *ast.SwitchStmt:
		o.expression(x.Tag)
	case *ast.CaseClause:
		for _, e := range x.List {
			o.expression(e)
		}
	case *ast.RangeStmt:
		o.expression(x.X)
	case *ast.ValueSpec:
		o.list(x, x.Values)
	case *ast.DeferStmt:
		o.expression(x.Call)
	case *ast.GoStmt:
		o.expression(x.Call)
	case *ast.SendStmt:
		o.list(x, []ast.Expr{x.Chan, x.Value})
	}
	return true
}

// faultsOf is where a package's statements hang on an open order.
func faultsOf(p *program, path string) []string {
	o := newOrders(p)
	for _, file := range p.files[path] {
		ast.Inspect(file, o.statement)
	}
	return o.faults
}

func TestP2NoStatementHangsOnAnOpenOrder(t *testing.T) {
	p := whole(t)
	for path := range p.files {
		for _, fault := range faultsOf(p, path) {
			t.Errorf("a call changes what its statement reads: %s", fault)
		}
	}
}

// sample is a package in which a function has one statement to be looked at.
const sample = `package sample

type item struct{ times int }

type list struct {
	items []item
	last  int
	inner struct{ sum int }
	visit func()
	sink  interface{ Write(int) int }
}

func (l *list) add() int { l.items = append(l.items, item{}); l.last++; return l.last }
func (l *list) size() int { return len(l.items) }
func (l *list) more() int { return l.add() + 1 }
func (l *list) Write(n int) int { l.last = n; return n }
func (l *list) sum() int { l.inner.sum++; return 1 }
func (l *list) bump(i int) bool { l.items[i].times++; return true }
func (l *list) anew() bool { *l = list{}; return true }
func (l *list) set() { l.visit = func() { l.last = 7 } }
func two(a, b int) int { return a + b }
func next(n *int) int { *n++; return *n }

func sample(l *list, n int) (int, int) {
	STATEMENT
	return 0, 0
}
`

// A look that finds nothing anywhere would pass the program too.
func TestFindsOpenOrders(t *testing.T) {
	for statement, faulty := range map[string]bool{
		"l.items[l.add()].times = 1":                              true,
		"l.items[l.more()].times = 1":                             true,
		"l.items[l.size()].times = 1":                             false,
		"at := l.add(); l.items[at].times = 1":                    false,
		"n = l.last + l.add()":                                    true,
		"n = l.add() + l.last":                                    true,
		"n = l.add() + l.add()":                                   false,
		"n = n + l.add()":                                         false,
		"l.last = l.add()":                                        false,
		"l.last += l.add()":                                       true,
		"n += l.add()":                                            false,
		"return l.last, l.add()":                                  true,
		"return l.size(), l.add()":                                false,
		"return len(l.items), l.add()":                            true,
		"n = two(l.last, l.add())":                                true,
		"n = two(n, l.add())":                                     false,
		"n = two(l.Write(l.last), 1)":                             false,
		"if l.last > 0 && l.add() > 0 { n = 1 }":                  false,
		"if l.last > l.add() { n = 1 }":                           true,
		"for l.last < l.add() { n = 1 }":                          true,
		"switch l.last + l.add() { case 1: n = 1 }":               true,
		"switch { case l.last > l.add(): n = 1 }":                 true,
		"switch { case l.add() > 1: n = l.last }":                 false,
		"for range l.items[l.add():] { n = 1 }":                   true,
		"n = l.sink.Write(1) + l.last":                            true,
		"n = l.inner.sum + l.sum()":                               true,
		"n = two(l.sum(), l.last)":                                false,
		"_ = []bool{l.items[0].times > 0, l.bump(0)}":             true,
		"_ = []bool{l.items[0].times > 0, l.anew()}":              true,
		"_ = []bool{n > 0, l.anew()}":                             false,
		"n = two(l.last, l.sum())":                                false,
		"n = two(l.inner.sum, l.sum())":                           true,
		"g := l.add; n = two(l.last, g())":                        true,
		"g := l.size; l.items[g()].times = 1":                     false,
		"_ = struct{a item; b bool}{l.items[0], l.bump(0)}":       true,
		"f := func() int { n++; return n }; n = two(n, f())":      true,
		"f := func() int { l.last = 1; return 1 }; n = f()":       false,
		"n = two(n, next(&n))":                                    true,
		"n, l.last = l.last, n":                                   false,
		"l.items = append(l.items, item{l.last})":                 false,
		"l.items = append(l.items, item{l.add()})":                true,
		"x := l.items[0]; l.items[0], l.items[1] = l.items[1], x": false,
	} {
		p := newProgram()
		text := strings.Replace(sample, "STATEMENT", statement, 1)
		text = strings.Replace(text, "func sample(", "func look(", 1)
		file, err := parser.ParseFile(p.set, "sample.go", text, 0)
		if err != nil {
			t.Fatal(statement, err)
		}
		if _, err := p.add("sample", []*ast.File{file}); err != nil {
			t.Fatal(statement, err)
		}
		if faults := faultsOf(p, "sample"); (len(faults) > 0) != faulty {
			t.Errorf("%q: %v", statement, faults)
		}
	}
}
