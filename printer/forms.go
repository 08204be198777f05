package printer

import "leasehold/api"

// The form of a statement or an expression is its text, in which each capital letter is a place for a part:
//
//	N  Name
//	V  Variant
//	O  Op
//	I  Number
//	F  Number, if it is not negative
//	A  the first of Names that has no place yet
//	L  Names, in brackets
//	P  Names, in brackets if there are any
//	T  Type
//	D  a colon and Type, if there is one
//	E  Expr
//	B  Then, a block
//	C  "else" and Else, a block, if there is anything in it
//	M  Arms, in braces
//	G  Func
//
// No other part has anything in it.

var expressions = [...]string{
	api.ExNumber:  "I",
	api.ExName:    "A",
	api.ExBinary:  "A O A",
	api.ExNew:     "new N.VP",
	api.ExBox:     "box A",
	api.ExUnbox:   "unbox A",
	api.ExShare:   "&A",
	api.ExLend:    "&!A",
	api.ExReShare: "&*A",
	api.ExReLend:  "&!*A",
	api.ExInShare: "&in A",
	api.ExInLend:  "&!in A",
	api.ExField:   "A.F",
	api.ExLoad:    "*A",
	api.ExCall:    "NL",
	api.ExMethod:  "N::A",
	api.ExArena:   "arena",
	api.ExAlloc:   "alloc A A",
	api.ExChan:    "chan T",
	api.ExRecv:    "recv A",
}

var statements = [...]string{
	api.StLet:    "let ND = E;",
	api.StSet:    "N = E;",
	api.StStore:  "*N = A;",
	api.StIf:     "if N BC",
	api.StWhile:  "while N B",
	api.StMatch:  "match N M",
	api.StReturn: "return N;",
	api.StPanic:  "panic;",
	api.StDrop:   "drop N;",
	api.StPrint:  "print N;",
	api.StSend:   "send N A;",
	api.StSpawn:  "spawn NL;",
	api.StFunc:   "G",
}

var captures = [...]string{
	api.CaptureMove:   "move ",
	api.CaptureShared: "&",
	api.CaptureExcl:   "&!",
}

// expressionForm returns the form of the expressions of a kind, which is empty if there is no such kind.
func expressionForm(kind int) string {
	if kind < 0 || kind >= len(expressions) {
		return ""
	}
	return expressions[kind]
}

// statementForm returns the form of the statements of a kind, which is empty if there is no such kind.
func statementForm(kind int) string {
	if kind < 0 || kind >= len(statements) {
		return ""
	}
	return statements[kind]
}
