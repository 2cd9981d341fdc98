package mask_test

import (
	"go/ast"
	"go/parser"
	"go/token"
	"testing"
)

// TestNoBranch looks at the text of the package, as no answer shows a branch: only a pointer may be asked, only whether it is nil, and a loop only ranges.
func TestNoBranch(t *testing.T) {
	files := token.NewFileSet()
	file, err := parser.ParseFile(files, "mask.go", nil, 0)
	if err != nil {
		t.Fatal(err)
	}
	ast.Inspect(file, func(n ast.Node) bool {
		if what := branchOn(n); what != "" {
			t.Errorf("%s: %s", files.Position(n.Pos()), what)
		}
		return true
	})
}

// branchOn says what a node asks that it may not ask; nothing, if it may.
func branchOn(n ast.Node) string {
	switch x := n.(type) {
	case *ast.ForStmt:
		return "a loop with a condition"
	case *ast.SwitchStmt, *ast.TypeSwitchStmt, *ast.SelectStmt:
		return "a switch"
	case *ast.BinaryExpr:
		switch x.Op {
		case token.LSS, token.LEQ, token.GTR, token.GEQ:
			return "a comparison"
		case token.EQL, token.NEQ:
			if y, ok := x.Y.(*ast.Ident); !ok || y.Name != "nil" {
				return "a comparison with something other than nil"
			}
		}
	case *ast.IndexExpr:
		if i, ok := x.Index.(*ast.Ident); !ok || i.Name != "i" {
			return "an index that no range counts"
		}
	case *ast.CallExpr:
		if f, ok := x.Fun.(*ast.Ident); ok && (f.Name == "min" || f.Name == "max") {
			return "a comparison inside " + f.Name
		}
	}
	return ""
}
