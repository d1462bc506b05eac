// Package rules holds the program's text against rules of its language that
// neither the compiler nor a call's answer shows.
package rules

import (
	"go/ast"
	"go/build"
	"go/importer"
	"go/parser"
	"go/token"
	"go/types"
	"os/exec"
	"path/filepath"
	"slices"
	"strings"
	"testing"
)

// program is the packages of the program, with the types of all that is in
// them.
type program struct {
	set   *token.FileSet
	info  *types.Info
	files map[string][]*ast.File
	known map[string]*types.Package
	std   types.Importer
}

func newProgram() *program {
	p := &program{
		set:   token.NewFileSet(),
		info:  &types.Info{Types: map[ast.Expr]types.TypeAndValue{}, Uses: map[*ast.Ident]types.Object{}, Defs: map[*ast.Ident]types.Object{}, Selections: map[*ast.SelectorExpr]*types.Selection{}},
		files: map[string][]*ast.File{},
		known: map[string]*types.Package{},
	}
	if build.Default.GOROOT == "" { // as with the flag -trimpath
		folder, _ := exec.Command("go", "env", "GOROOT").Output()
		build.Default.GOROOT = strings.TrimSpace(string(folder))
	}
	p.std = importer.ForCompiler(p.set, "source", nil)
	return p
}

// Import is what types asks for a package.
func (p *program) Import(path string) (*types.Package, error) {
	if known := p.known[path]; known != nil {
		return known, nil
	}
	folder, ours := strings.CutPrefix(path, "assay/")
	if !ours {
		return p.std.Import(path)
	}
	names, err := filepath.Glob(filepath.Join("..", folder, "*.go"))
	if err != nil {
		return nil, err
	}
	var files []*ast.File
	for _, name := range names {
		if strings.HasSuffix(name, "_test.go") {
			continue
		}
		file, err := parser.ParseFile(p.set, name, nil, parser.SkipObjectResolution)
		if err != nil {
			return nil, err
		}
		files = append(files, file)
	}
	return p.add(path, files)
}

// add takes in a package.
func (p *program) add(path string, files []*ast.File) (*types.Package, error) {
	config := types.Config{Importer: p}
	made, err := config.Check(path, p.set, files, p.info)
	p.files[path], p.known[path] = files, made
	return made, err
}

// whole is all packages of the program: those with the calls, and what they
// import.
func whole(t *testing.T) *program {
	t.Helper()
	p := newProgram()
	for _, path := range []string{"assay/api", "assay/drat", "assay/assay"} {
		if _, err := p.Import(path); err != nil {
			t.Fatal(err)
		}
	}
	return p
}

// library is what may be imported beside the program's own packages.
var library = strings.Fields("bytes cmp container/heap errors iter maps math math/big math/bits slices sort strconv strings sync sync/atomic unicode unicode/utf8")

func TestImports(t *testing.T) {
	p := whole(t)
	for path, files := range p.files {
		for _, file := range files {
			for _, spec := range file.Imports {
				name := strings.Trim(spec.Path.Value, `"`)
				if !strings.HasPrefix(name, "assay/") && !slices.Contains(library, name) {
					t.Errorf("%s imports %s", path, name)
				}
			}
		}
	}
}

func TestFunctionsAreShort(t *testing.T) {
	p := whole(t)
	for _, files := range p.files {
		for _, file := range files {
			for _, decl := range file.Decls {
				if f, ok := decl.(*ast.FuncDecl); ok {
					lines := p.set.Position(f.End()).Line - p.set.Position(f.Pos()).Line + 1
					if lines > 60 {
						t.Errorf("%s has %d lines", f.Name.Name, lines)
					}
				}
			}
		}
	}
}
