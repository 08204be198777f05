// Package rules checks what holds for the texts of all packages of the program.
package rules

import (
	"go/ast"
	"go/parser"
	"go/token"
	"io/fs"
	"path/filepath"
	"slices"
	"strconv"
	"strings"
	"testing"
)

// allowed are the packages of the library that read no clock, file, network or random numbers, and print nothing.
var allowed = strings.Fields("bytes cmp container/heap errors iter maps math math/bits slices sort strconv strings sync sync/atomic unicode unicode/utf8")

// sources returns the Go files of the program, without tests.
func sources(t *testing.T) []string {
	var files []string
	err := filepath.WalkDir("..", func(path string, d fs.DirEntry, err error) error {
		if err != nil {
			return err
		}
		if d.IsDir() && (d.Name() == "sharedtests" || d.Name() == ".git") {
			return filepath.SkipDir
		}
		if strings.HasSuffix(path, ".go") && !strings.HasSuffix(path, "_test.go") {
			files = append(files, path)
		}
		return nil
	})
	if err != nil {
		t.Fatal(err)
	}
	return files
}

func imports(t *testing.T, path string) []string {
	file, err := parser.ParseFile(token.NewFileSet(), path, nil, parser.ParseComments)
	if err != nil {
		t.Fatal(err)
	}
	var list []string
	for _, x := range file.Imports {
		name, err := strconv.Unquote(x.Path.Value)
		if err != nil {
			t.Fatal(err)
		}
		list = append(list, name)
	}
	if directive(file) {
		t.Errorf("%s has a directive", path)
	}
	return list
}

func directive(file *ast.File) bool {
	for _, group := range file.Comments {
		for _, c := range group.List {
			if strings.HasPrefix(c.Text, "//go:") || strings.HasPrefix(c.Text, "// +build") {
				return true
			}
		}
	}
	return false
}

// P0.3: no package of the program can reach a clock, a file, the network or random numbers.
func TestNoOtherEffects(t *testing.T) {
	files := sources(t)
	if len(files) == 0 {
		t.Fatal("no files")
	}
	for _, path := range files {
		for _, name := range imports(t, path) {
			if !slices.Contains(allowed, name) && !strings.HasPrefix(name, "leasehold/") {
				t.Errorf("%s imports %s", path, name)
			}
		}
	}
}

// Each package that is built calls only those that the document's overview names; the tables and errors of api are there for all.
func TestLayers(t *testing.T) {
	calls := map[string]string{"lexer": "", "parser": "lexer", "printer": "", "resolve": "", "unify": "", "traits": "unify", "check": "resolve unify traits", "matching": "unify", "lift": "", "lower": ""}
	for _, path := range sources(t) {
		layer := filepath.Base(filepath.Dir(path))
		below, built := calls[layer]
		for _, name := range imports(t, path) {
			other, own := strings.CutPrefix(name, "leasehold/")
			if built && own && other != "api" && !slices.Contains(strings.Fields(below), other) {
				t.Errorf("%s imports %s", path, name)
			}
		}
	}
}
