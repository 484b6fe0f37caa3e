// Package ways holds what the document's section 'Ways' says of each layer, and the order of the layers, against the program's text.
package ways

import (
	"go/ast"
	"go/importer"
	"go/parser"
	"go/token"
	"go/types"
	"os"
	"path/filepath"
	"slices"
	"strings"
	"testing"
)

// facts tells which constructs a package uses, and how often.
type facts map[string]int

// loader type-checks the module's packages from their texts.
type loader struct {
	fset  *token.FileSet
	std   types.Importer
	known map[string]*types.Package
	info  *types.Info
	files map[string][]*ast.File
}

func newLoader() *loader {
	fset := token.NewFileSet()
	return &loader{
		fset:  fset,
		std:   importer.ForCompiler(fset, "source", nil),
		known: map[string]*types.Package{},
		info: &types.Info{
			Types:      map[ast.Expr]types.TypeAndValue{},
			Selections: map[*ast.SelectorExpr]*types.Selection{},
			Uses:       map[*ast.Ident]types.Object{},
			Defs:       map[*ast.Ident]types.Object{},
		},
		files: map[string][]*ast.File{},
	}
}

func (l *loader) Import(name string) (*types.Package, error) {
	short, own := strings.CutPrefix(name, "gabion/")
	if !own {
		return l.std.Import(name)
	}
	if p := l.known[short]; p != nil {
		return p, nil
	}
	list, err := filepath.Glob(filepath.Join("..", short, "*.go"))
	if err != nil {
		return nil, err
	}
	for _, f := range list {
		if strings.HasSuffix(f, "_test.go") {
			continue
		}
		text, err := os.ReadFile(f)
		if err != nil {
			return nil, err
		}
		file, err := parser.ParseFile(l.fset, f, text, 0)
		if err != nil {
			return nil, err
		}
		l.files[short] = append(l.files[short], file)
	}
	conf := types.Config{Importer: l}
	p, err := conf.Check(name, l.fset, l.files[short], l.info)
	l.known[short] = p
	return p, err
}

// gather tells what the text of a package uses.
func (l *loader) gather(t *testing.T, short string) facts {
	t.Helper()
	if _, err := l.Import("gabion/" + short); err != nil {
		t.Fatalf("%s: %v", short, err)
	}
	f := facts{}
	for _, file := range l.files[short] {
		called := map[ast.Expr]bool{}
		ast.Inspect(file, func(n ast.Node) bool {
			if c, ok := n.(*ast.CallExpr); ok {
				called[ast.Unparen(c.Fun)] = true
				l.call(f, c)
			}
			l.note(f, n, called)
			return true
		})
		for _, d := range file.Decls {
			if g, ok := d.(*ast.GenDecl); ok && g.Tok == token.VAR {
				f["table"]++
			}
		}
	}
	return f
}

func (l *loader) call(f facts, c *ast.CallExpr) {
	switch fun := ast.Unparen(c.Fun).(type) {
	case *ast.Ident:
		if _, ok := l.info.Uses[fun].(*types.Builtin); ok {
			f[fun.Name]++
		}
	case *ast.SelectorExpr:
		if p, ok := fun.X.(*ast.Ident); ok {
			if q, ok := l.info.Uses[p].(*types.PkgName); ok {
				name := q.Imported().Name() + "." + fun.Sel.Name
				f[name]++
				for _, a := range c.Args {
					if _, ok := a.(*ast.FuncLit); ok {
						f[name+" closure"]++
					}
				}
			}
		}
	}
}

func (l *loader) note(f facts, n ast.Node, called map[ast.Expr]bool) {
	switch n := n.(type) {
	case *ast.RangeStmt:
		switch u := l.info.TypeOf(n.X).Underlying().(type) {
		case *types.Map:
			f["range-map"]++
		case *types.Signature:
			f["range-func"]++
		case *types.Basic:
			if u.Info()&types.IsInteger != 0 {
				f["range-int"]++
			}
			if u.Info()&types.IsString != 0 {
				f["range-string"]++
			}
		}
	case *ast.FuncLit:
		f["closure"]++
	case *ast.MapType:
		f["map"]++
	case *ast.ArrayType:
		if n.Len != nil {
			f["array"]++
		}
	case *ast.Ellipsis:
		f["variadic"]++
	case *ast.TypeAssertExpr:
		f["assertion"]++
	case *ast.Ident:
		if n.Name == "iota" {
			f["iota"]++
		}
	case *ast.BinaryExpr:
		if n.Op == token.EQL || n.Op == token.NEQ {
			if _, ok := l.info.TypeOf(n.X).Underlying().(*types.Struct); ok {
				f["struct-compare"]++
			}
		}
	case *ast.StructType:
		for _, x := range n.Fields.List {
			if len(x.Names) == 0 {
				f["embedding"]++
			}
			if _, ok := x.Type.(*ast.FuncType); ok {
				f["function-field"]++
			}
		}
	case *ast.SelectorExpr:
		s := l.info.Selections[n]
		if s == nil {
			return
		}
		if len(s.Index()) > 1 {
			f["promoted"]++
		}
		if s.Kind() == types.MethodVal && !called[n] {
			f["method-value"]++
		}
		if s.Kind() == types.MethodExpr {
			f["method-expression"]++
		}
	}
}

// ways is what the section says, by the layers that are built.
var ways = map[string][]string{
	"pm":      {"map", "range-map", "closure"},
	"spare":   {"map", "range-int"},
	"ring":    {"closure"},
	"feistel": {"array", "method-value"},
	"hot":     {"heap.Init", "heap.Pop", "assertion", "closure"},
	"log":     {"variadic", "struct-compare"},
	"alloc":   {"slices.IndexFunc closure"},
	"ext":     {"variadic", "closure"},
	"inode":   {"iota"},
	"dir":     {"map", "delete"},
	"path":    {"range-func"},
	"tree":    {"embedding", "promoted", "map", "range-map", "iota", "clear", "delete"},
	"apply":   {"map", "iota"},
	"store":   {"closure"},
	"file":    {"method-value", "closure"},
	"desc":    {"iota", "array"},
	"lock":    {"variadic", "map", "maps.DeleteFunc closure"},
	"call":    {"embedding", "promoted", "iota", "method-value", "closure"},
	"sched":   {"slices.Clone"},
	"model":   {"embedding", "promoted", "map"},
	"script":  {"map", "method-expression", "function-field", "table", "range-string", "clear"},
}

func TestWays(t *testing.T) {
	l := newLoader()
	for short, want := range ways {
		got := l.gather(t, short)
		for _, w := range want {
			if got[w] == 0 {
				t.Errorf("%s: no %s", short, w)
			}
		}
	}
}

// layers is the overview: each layer's package, and the layers that it calls.
var layers = []struct {
	name  string
	calls string
}{
	{"le", ""}, {"crc", "le"}, {"pm", ""}, {"line", "le pm"}, {"spare", "le crc pm line"}, {"gap", "le"},
	{"ring", "le pm spare gap"}, {"feistel", "le"}, {"flat", "le crc pm line ring feistel"}, {"hot", "le crc pm flat"},
	{"space", "le hot"}, {"rec", "le crc"}, {"log", "crc space rec"}, {"alloc", ""}, {"ext", "le alloc"},
	{"inode", "le ext"}, {"dir", "le crc"}, {"path", "dir"}, {"tree", "alloc ext inode dir path"},
	{"apply", "le rec inode dir tree"}, {"store", "space log alloc ext inode tree apply"},
	{"file", "alloc ext inode tree store"}, {"desc", ""}, {"lock", ""},
	{"call", "inode path tree store file desc lock"}, {"sched", "call"},
	{"boot", "pm flat hot space log store desc call"}, {"audit", "pm alloc ext inode tree store"},
	{"model", "alloc ext inode path tree file desc call audit"}, {"script", "pm flat call boot audit"},
}

// library is what the program may import of the library.
var library = strings.Fields("bytes cmp container/heap errors iter maps math math/bits slices sort strconv strings sync sync/atomic unicode unicode/utf8")

func TestLayersCallLowerOnes(t *testing.T) {
	for _, x := range layers {
		list, err := filepath.Glob(filepath.Join("..", x.name, "*.go"))
		if err != nil || len(list) == 0 {
			t.Fatalf("%s: %v", x.name, err)
		}
		for _, name := range list {
			if strings.HasSuffix(name, "_test.go") {
				continue
			}
			file, err := parser.ParseFile(token.NewFileSet(), name, nil, parser.ImportsOnly)
			if err != nil {
				t.Fatal(err)
			}
			for _, i := range file.Imports {
				path := strings.Trim(i.Path.Value, `"`)
				short, own := strings.CutPrefix(path, "gabion/")
				if own && short != "api" && !slices.Contains(strings.Fields(x.calls), short) || !own && !slices.Contains(library, path) {
					t.Errorf("%s imports %s", name, path)
				}
			}
		}
	}
}
