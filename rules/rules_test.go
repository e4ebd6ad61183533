// Package rules has tests of the form of the program's code: which packages
// it may use, which layers may call which, how its files are laid out.
package rules

import (
	"bytes"
	"go/ast"
	"go/format"
	"go/parser"
	"go/token"
	"io/fs"
	"os"
	"path/filepath"
	"slices"
	"strconv"
	"strings"
	"testing"
)

const (
	module    = "cloister"
	mostLines = 60
)

var (
	library = strings.Fields("bytes cmp container/heap errors iter maps math math/big math/bits slices sort strconv strings sync sync/atomic unicode unicode/utf8")
	ofSync  = strings.Fields("Mutex RWMutex WaitGroup Once")
	layers  = strings.Fields("api wire memory cache entry tlb arena tables mmu gic isa asm core config valid graph sampling queuing hours boot hyper monitor trace snapshot deck lab audit rill mean flow tidy forge object worst slots tale fleet")
)

type file struct {
	path, folder string
	source       []byte
	tree         *ast.File
	set          *token.FileSet
}

func (f file) line(p token.Pos) int { return f.set.Position(p).Line }

// programFiles: all Go files of the program; neither its tests, nor the tests
// that are laid beside it.
func programFiles(t *testing.T) []file {
	t.Helper()
	var files []file
	err := filepath.WalkDir("..", func(path string, d fs.DirEntry, err error) error {
		if err != nil {
			return err
		}
		if d.IsDir() && (d.Name() == "sharedtests" || strings.HasPrefix(d.Name(), ".") && d.Name() != "..") {
			return filepath.SkipDir
		}
		if d.IsDir() || !strings.HasSuffix(path, ".go") || strings.HasSuffix(path, "_test.go") {
			return nil
		}
		source, err := os.ReadFile(path)
		if err != nil {
			return err
		}
		set := token.NewFileSet()
		tree, err := parser.ParseFile(set, path, source, parser.ParseComments|parser.SkipObjectResolution)
		folder, _ := filepath.Rel("..", filepath.Dir(path))
		files = append(files, file{path, filepath.ToSlash(folder), source, tree, set})
		return err
	})
	if err != nil {
		t.Fatal(err)
	}
	if len(files) < len(layers) {
		t.Fatalf("%d files were found, and there are %d packages", len(files), len(layers))
	}
	return files
}

func TestImports(t *testing.T) {
	for _, f := range programFiles(t) {
		for _, spec := range f.tree.Imports {
			path, _ := strconv.Unquote(spec.Path.Value)
			own, isOwn := strings.CutPrefix(path, module+"/")
			switch {
			case isOwn && slices.Contains(layers, f.folder) && slices.Index(layers, own) >= slices.Index(layers, f.folder):
				t.Errorf("%s: %s is not below %s", f.path, own, f.folder)
			case !isOwn && !slices.Contains(library, path):
				t.Errorf("%s: imports %s", f.path, path)
			}
		}
	}
}

// standsOn: which layers those that are built may call beside api, by the words
// of their chapters.
func standsOn() map[string]string {
	return map[string]string{
		"wire": "", "memory": "", "cache": "", "entry": "", "tlb": "", "gic": "", "isa": "", "graph": "", "sampling": "", "queuing": "", "hours": "", "rill": "",
		"arena":    "memory",
		"tables":   "memory entry arena",
		"mmu":      "memory cache entry tlb tables",
		"asm":      "isa",
		"core":     "isa",
		"config":   "wire",
		"trace":    "wire",
		"valid":    "cache tables",
		"boot":     "config valid memory arena tables cache tlb mmu gic hours sampling queuing",
		"hyper":    "boot valid mmu gic hours sampling queuing",
		"monitor":  "config boot valid hours gic core mmu cache tlb memory tables sampling queuing hyper",
		"snapshot": "wire monitor",
		"deck":     "asm",
		"lab":      "config graph monitor trace snapshot deck",
		"audit":    "valid hours",
		"mean":     "rill",
	}
}

func TestStandsOn(t *testing.T) {
	on := standsOn()
	for _, f := range programFiles(t) {
		below, built := on[f.folder]
		for _, spec := range f.tree.Imports {
			path, _ := strconv.Unquote(spec.Path.Value)
			own, isOwn := strings.CutPrefix(path, module+"/")
			if built && isOwn && own != "api" && !slices.Contains(strings.Fields(below), own) {
				t.Errorf("%s: %s does not stand on %s", f.path, f.folder, own)
			}
		}
	}
}

func TestLayout(t *testing.T) {
	for _, f := range programFiles(t) {
		if want, err := format.Source(f.source); err != nil || !bytes.Equal(want, f.source) {
			t.Errorf("%s: not as gofmt lays it out", f.path)
		}
		for _, group := range f.tree.Comments {
			for _, c := range group.List {
				if strings.HasPrefix(c.Text, "//go:") || strings.HasPrefix(c.Text, "// +build") {
					t.Errorf("%s:%d: %s", f.path, f.line(c.Pos()), c.Text)
				}
			}
		}
	}
}

func TestFunctions(t *testing.T) {
	for _, f := range programFiles(t) {
		ast.Inspect(f.tree, func(n ast.Node) bool {
			switch x := n.(type) {
			case *ast.FuncDecl:
				if lines := f.line(x.End()) - f.line(x.Pos()) + 1; lines > mostLines {
					t.Errorf("%s: %s has %d lines", f.path, x.Name.Name, lines)
				}
			case *ast.CallExpr:
				if name, ok := x.Fun.(*ast.Ident); ok && (name.Name == "print" || name.Name == "println") {
					t.Errorf("%s:%d: prints", f.path, f.line(x.Pos()))
				}
			case *ast.SelectorExpr:
				if p, ok := x.X.(*ast.Ident); ok && p.Name == "sync" && !slices.Contains(ofSync, x.Sel.Name) {
					t.Errorf("%s:%d: sync.%s", f.path, f.line(x.Pos()), x.Sel.Name)
				}
			}
			return true
		})
	}
}

func TestPackageLevelVariables(t *testing.T) {
	for _, f := range programFiles(t) {
		for _, d := range f.tree.Decls {
			g, ok := d.(*ast.GenDecl)
			if !ok || g.Tok != token.VAR {
				continue
			}
			for _, s := range g.Specs {
				spec := s.(*ast.ValueSpec)
				if len(spec.Values) == 0 {
					t.Errorf("%s: %s has no value of its own", f.path, spec.Names[0].Name)
				}
				for _, v := range spec.Values {
					if what := notAtPackageLevel(v); what != "" {
						t.Errorf("%s: %s has %s at package level", f.path, spec.Names[0].Name, what)
					}
				}
			}
		}
	}
}

func notAtPackageLevel(v ast.Expr) string {
	what := ""
	ast.Inspect(v, func(n ast.Node) bool {
		switch x := n.(type) {
		case *ast.MapType:
			what = "a map"
		case *ast.FuncLit:
			what = "a function"
		case *ast.UnaryExpr:
			if x.Op == token.AND {
				what = "a pointer"
			}
		case *ast.CallExpr:
			s, ok := x.Fun.(*ast.SelectorExpr)
			if !ok {
				what = "a call"
			} else if p, ok := s.X.(*ast.Ident); !ok || p.Name != "errors" || s.Sel.Name != "New" {
				what = "a call"
			}
		}
		return true
	})
	return what
}

// TestFolders: nothing but Go files beside the program's files, and the whole
// map is there.
func TestFolders(t *testing.T) {
	seen := map[string]int{}
	for _, f := range programFiles(t) {
		seen[f.folder]++
	}
	for _, l := range layers {
		if seen[l] == 0 {
			t.Errorf("package %s is missing", l)
		}
	}
	for folder := range seen {
		if name := filepath.Base(folder); name == "form" || name == "try" || strings.HasPrefix(name, module) {
			t.Errorf("a package may not be named %s", name)
		}
		entries, err := os.ReadDir(filepath.Join("..", folder))
		if err != nil {
			t.Fatal(err)
		}
		for _, e := range entries {
			if !e.IsDir() && !strings.HasSuffix(e.Name(), ".go") {
				t.Errorf("%s has %s beside the Go files", folder, e.Name())
			}
		}
	}
}
