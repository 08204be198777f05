package check

import (
	"math/rand/v2"
	"slices"
	"strings"
	"testing"

	"leasehold/api"
)

// maker makes random bodies for functions.
type maker struct{ *rand.Rand }

func seeded(n uint64) maker { return maker{rand.New(rand.NewPCG(n, 7))} }

func (m maker) one(words string) string {
	l := strings.Fields(words)
	return l[m.IntN(len(l))]
}

// signatures are the functions for which bodies are made.
var signatures = []string{
	"fn f() -> Int { }",
	"fn f(a: Int, b: Box<Int>, c: Pair) -> Int { }",
	"fn f<T>(a: T, b: &!List<T>, c: Int) -> T where T: Size, T: Show { }",
	"fn f(a: &Arena, b: Chan<Pair>, c: Pair, d: Int) -> Pair { }",
	"fn f(a: List<Int>, b: &!Map<Int, Pair>, c: &!Box<Int>, d: Int) -> List<Int> { }",
	"fn f<T, U>(a: Map<T, U>, b: &T, c: Box<U>, d: &!Wide<T, Two, Int>) -> Box<Int> where U: Size { }",
	"fn f(a: Arena, b: &!Int, c: Deep<Int>, d: &Deep<Two>, e: Two) -> &!Int { }",
	"fn f(a: Box<Box<Box<Box<Box<Box<Two>>>>>>, b: Chan<Chan<Chan<Chan<Chan<Chan<Chan<Int>>>>>>>, c: &Arena, d: Two) -> Int { }",
}

func (m maker) subject(t testing.TB) subject {
	return read(t, signatures[m.IntN(len(signatures))])
}

// newName makes a name for a variable, often one that there is already.
func (m maker) newName() string { return m.one("a b c d e g h") }

// names picks variables.
func (m maker) names(n int, visible []string) []string {
	var l []string
	for range n {
		if len(visible) == 0 || m.IntN(60) == 0 {
			l = append(l, m.newName())
		} else {
			l = append(l, visible[m.IntN(len(visible))])
		}
	}
	return l
}

func (m maker) typeExpr(levels int) api.TypeExpr {
	e := api.TypeExpr{Name: m.one("Int Int Int T U Pair Two List Map Box Chan Arena & &! Deep Secret")}
	n := map[string]int{"List": 1, "Map": 2, "Box": 1, "Chan": 1, "&": 1, "&!": 1, "Deep": 1}[e.Name]
	if n > 0 && levels == 1 {
		return m.typeExpr(levels)
	}
	for range n {
		e.Args = append(e.Args, m.typeExpr(levels-1))
	}
	return e
}

// arities are the names of functions, or data types and variants, with the number of their arguments or fields.
func (m maker) applied(words string) (name string, n int) {
	name, digit, _ := strings.Cut(m.one(words), "/")
	n = int(digit[0] - '0')
	if m.IntN(30) == 0 {
		n += m.IntN(3) - 1
	}
	return name, max(n, 0)
}

func (m maker) expression(visible []string) api.Expr {
	x := api.Expr{Kind: 1 + m.IntN(api.ExRecv)}
	if rare := []int{api.ExBinary, api.ExBinary, api.ExBinary, api.ExNew, api.ExNew, api.ExInShare, api.ExInLend, api.ExField, api.ExLoad, api.ExLoad, api.ExAlloc, api.ExAlloc, api.ExMethod, api.ExCall, api.ExRecv, api.ExUnbox, api.ExReLend}; m.IntN(2) == 0 {
		x.Kind = rare[m.IntN(len(rare))]
	}
	n := 1
	switch x.Kind {
	case api.ExNumber:
		n, x.Number = 0, m.IntN(5)-2
	case api.ExBinary:
		n, x.Op = 2, m.one("+ - * < ==")
	case api.ExNew:
		x.Name, n = m.applied("List.nil/0 List.nil/0 List.cons/2 List.cons/2 Pair.pair/2 Map.map/2 Two.left/1 Two.right/0 Wide.wide/3 Deep.deep/1 Secret.secret/0")
		x.Name, x.Variant, _ = strings.Cut(x.Name, ".")
	case api.ExField:
		x.Number = m.IntN(3)
	case api.ExCall:
		x.Name, n = m.applied("need/1 id/1 id/1 both/2 swap/3 ref/1 give/1 none/0 zone/1 pick/2 hidden/0")
	case api.ExMethod:
		x.Name = m.one("Size Show Size Show Size Show Dark")
	case api.ExArena:
		n = 0
	case api.ExAlloc:
		n = 2
	case api.ExChan:
		n, x.Type = 0, []api.TypeExpr{m.typeExpr(3)}
	}
	x.Names = m.names(n, visible)
	return x
}

// statement makes a statement without blocks.
func (m maker) statement(visible []string) api.Stmt {
	kinds := []int{api.StLet, api.StLet, api.StLet, api.StLet, api.StLet, api.StLet, api.StLet, api.StSet, api.StSet, api.StStore, api.StStore, api.StStore, api.StDrop, api.StPrint, api.StSend, api.StSend, api.StSend, api.StSend, api.StSpawn, api.StReturn, api.StPanic}
	s := api.Stmt{Kind: kinds[m.IntN(len(kinds))]}
	s.Name = m.names(1, visible)[0]
	switch s.Kind {
	case api.StLet:
		s.Name, s.Expr = m.newName(), m.expression(visible)
		if m.IntN(8) == 0 {
			s.Type = []api.TypeExpr{m.typeExpr(3)}
		}
	case api.StSet:
		s.Expr = m.expression(visible)
	case api.StStore, api.StSend:
		s.Names = m.names(1, visible)
	case api.StSpawn:
		n := 0
		s.Name, n = m.applied("need/1 id/1 both/2 swap/3 none/0")
		s.Names = m.names(n, visible)
	case api.StPanic:
		s.Name = ""
	}
	return s
}

// sentinel ends a body at a statement that has an error at an offset that no other one has.
func sentinel() api.Stmt { return api.Stmt{Kind: api.StFunc, Offset: -7} }

// gardener grows a body statement by statement: whatever is added has no error of its own, and seldom one at the end, unless that is still to become right.
type gardener struct {
	maker
	s subject
}

// grows reports whether a statement can be added to a block.
func (g gardener) grows(l []api.Stmt, s api.Stmt, whole func([]api.Stmt) []api.Stmt) bool {
	l = append(slices.Clone(l), s)
	if g.IntN(12) > 0 && g.rightAtEnd(whole(l)) || g.IntN(40) == 0 {
		return g.rightBefore(whole(append(l, sentinel())))
	}
	return false
}

// rightBefore reports whether there is no error before the sentinel.
func (g gardener) rightBefore(body []api.Stmt) bool {
	_, err, at := Body(g.s.p, g.s.fn, numbered(g.s.with(body)).f)
	return err == api.ErrArg && at == -7
}

// rightAtEnd reports whether there is no error, unless arms are still missing.
func (g gardener) rightAtEnd(body []api.Stmt) bool {
	_, err, _ := Body(g.s.p, g.s.fn, numbered(g.s.with(body)).f)
	return err == api.OK || err == api.ErrMatch
}

// grown makes a block of up to n statements. Whole puts it into the body around it.
func (g gardener) grown(n, levels int, visible []string, whole func([]api.Stmt) []api.Stmt) []api.Stmt {
	var l []api.Stmt
	visible = slices.Clone(visible)
	for tries := 0; len(l) < n && tries < 40*n; tries++ {
		if levels > 0 && g.IntN(25) == 0 {
			l = g.nested(l, levels, visible, whole)
			continue
		}
		s := g.statement(visible)
		if !g.grows(l, s, whole) {
			continue
		}
		l = append(l, s)
		if s.Kind == api.StLet {
			visible = append(visible, s.Name)
		}
	}
	return l
}

// nested tries to add a statement with blocks to a block.
func (g gardener) nested(l []api.Stmt, levels int, visible []string, whole func([]api.Stmt) []api.Stmt) []api.Stmt {
	s := api.Stmt{Kind: []int{api.StIf, api.StWhile, api.StMatch, api.StMatch}[g.IntN(4)], Name: g.names(1, visible)[0]}
	with := func(s api.Stmt) func([]api.Stmt) []api.Stmt {
		return func(inner []api.Stmt) []api.Stmt {
			switch {
			case len(s.Arms) > 0:
				s.Arms = slices.Clone(s.Arms)
				s.Arms[len(s.Arms)-1].Body = inner
			case s.Kind == api.StIf && len(s.Then) > 0:
				s.Else = inner
			default:
				s.Then = inner
			}
			return whole(append(slices.Clone(l), s))
		}
	}
	if s.Kind != api.StMatch {
		if !g.rightBefore(with(s)([]api.Stmt{sentinel()})) {
			return l
		}
		s.Then = g.grown(3, levels-1, visible, with(s))
		if len(s.Then) > 0 && s.Kind == api.StIf && g.IntN(2) == 0 {
			s.Else = g.grown(3, levels-1, visible, with(s))
		}
		return append(l, s)
	}
	for _, variants := range []string{"nil cons/2", "cons/2 nil", "left/1 right", "right left/1", "pair/2", "map/2", "wide/3", "deep/1"} {
		s.Arms = nil
		for _, word := range strings.Fields(variants) {
			name, digit, _ := strings.Cut(word, "/")
			names := strings.Fields("a b c d e g h")
			g.Shuffle(len(names), func(i, j int) { names[i], names[j] = names[j], names[i] })
			n := 0
			if digit != "" {
				n = int(digit[0] - '0')
			}
			s.Arms = append(slices.Clone(s.Arms), api.ArmDef{Variant: name, Names: names[:n]})
			if !g.rightBefore(with(s)([]api.Stmt{sentinel()})) {
				s.Arms = nil
				break
			}
			s.Arms[len(s.Arms)-1].Body = g.grown(2, levels-1, append(slices.Clone(visible), names[:n]...), with(s))
		}
		if len(s.Arms) > 0 {
			return append(l, s)
		}
	}
	return l
}

// body makes a body without errors before the end.
func (m maker) body(s subject, n int) subject {
	var visible []string
	for _, a := range s.f.Args {
		visible = append(visible, a.Name)
	}
	g := gardener{m, s}
	return numbered(s.with(g.grown(n, 2, visible, func(l []api.Stmt) []api.Stmt { return l })))
}

// copied copies statements, in which it calls functions with each statement and each arm before what is inside them.
func copied(l []api.Stmt, statement func(*api.Stmt), arm func(*api.ArmDef)) []api.Stmt {
	l = slices.Clone(l)
	for i := range l {
		s := &l[i]
		s.Names, s.Expr.Names = slices.Clone(s.Names), slices.Clone(s.Expr.Names)
		s.Type, s.Expr.Type, s.Arms, s.Func = slices.Clone(s.Type), slices.Clone(s.Expr.Type), slices.Clone(s.Arms), slices.Clone(s.Func)
		statement(s)
		s.Then, s.Else = copied(s.Then, statement, arm), copied(s.Else, statement, arm)
		for k := range s.Arms {
			s.Arms[k].Names = slices.Clone(s.Arms[k].Names)
			arm(&s.Arms[k])
			s.Arms[k].Body = copied(s.Arms[k].Body, statement, arm)
		}
	}
	return l
}

// numbered gives all parts of a declaration different offsets, in no order. The sentinel has its own.
func numbered(s subject) subject {
	n := 0
	next := func() int {
		n++
		return n * 7919 % 10007
	}
	var typeExpr func(e api.TypeExpr) api.TypeExpr
	typeExpr = func(e api.TypeExpr) api.TypeExpr {
		e.Args, e.Offset = slices.Clone(e.Args), next()
		for i := range e.Args {
			e.Args[i] = typeExpr(e.Args[i])
		}
		return e
	}
	types := func(l []api.TypeExpr) {
		for i := range l {
			l[i] = typeExpr(l[i])
		}
	}
	s.f.Args, s.f.Offset, s.f.Result = slices.Clone(s.f.Args), next(), typeExpr(s.f.Result)
	for i := range s.f.Args {
		s.f.Args[i].Offset, s.f.Args[i].Type = next(), typeExpr(s.f.Args[i].Type)
	}
	return s.with(copied(s.f.Body, func(x *api.Stmt) {
		if x.Kind != api.StFunc {
			x.Offset = next()
		}
		x.Expr.Offset = next()
		types(x.Type)
		types(x.Expr.Type)
	}, func(a *api.ArmDef) { a.Offset = next() }))
}

// changed changes one part of a body, and gives it new offsets.
func (m maker) changed(s subject) subject {
	total := 0
	arms := 0
	copied(s.f.Body, func(*api.Stmt) { total++ }, func(*api.ArmDef) { arms++ })
	if total == 0 {
		return s
	}
	n := m.IntN(total)
	if arms > 0 && m.IntN(3) == 0 {
		n = -1 // no statement, but an arm
	}
	k := m.IntN(arms + 1)
	statement := func(x *api.Stmt) {
		if n--; n == -1 {
			m.change(x)
		}
	}
	arm := func(a *api.ArmDef) {
		if k--; k == -1 && n < -1 {
			m.changeArm(a)
		}
	}
	return numbered(s.with(copied(s.f.Body, statement, arm)))
}

func (m maker) change(s *api.Stmt) {
	all := strings.Fields("a b c d e g h")
	kind := m.IntN(12)
	switch {
	case len(s.Arms) > 0 && m.IntN(2) == 0:
		kind = 10
	case s.Expr.Kind == api.ExNumber && m.IntN(2) == 0:
		kind = 8
	}
	switch kind {
	case 0:
		s.Name = m.one("a b c d e g h id none nope")
	case 1:
		s.Names = m.names(m.IntN(3), all)
	case 2:
		s.Expr.Names = m.names(m.IntN(4), all)
	case 3:
		if s.Expr = m.expression(all); m.IntN(2) == 0 {
			s.Expr = api.Expr{Kind: api.ExCall, Name: "need", Names: m.names(1, all)}
		}
	case 4:
		s.Expr.Kind = m.IntN(api.ExRecv + 2)
	case 5:
		s.Kind = m.IntN(api.StFunc + 2)
	case 6:
		s.Type = append(s.Type, m.typeExpr(3))
	case 7:
		*s = m.statement(all)
	case 8:
		s.Expr.Number = []int{-1, 0, 1, 2, api.MaxNumber, api.MaxNumber + 1, -api.MaxNumber, -api.MaxNumber - 1}[m.IntN(8)]
	case 9:
		s.Expr.Name, s.Expr.Variant, s.Expr.Op = m.one("List Two Pair id need Size nope"), m.one("nil left cons pair nope"), m.one("+ < / nope")
	case 10:
		s.Then, s.Else, s.Arms = s.Else, s.Then, s.Arms[:m.IntN(len(s.Arms)+1)]
		if len(s.Arms) > 0 && m.IntN(2) == 0 {
			s.Arms = append(s.Arms, s.Arms[0])
		}
	case 11:
		s.Expr.Type = append(s.Expr.Type, m.typeExpr(2))
	}
}

func (m maker) changeArm(a *api.ArmDef) {
	switch m.IntN(3) {
	case 0:
		a.Variant = m.one("nil cons left right pair nope")
	case 1:
		a.Names = m.names(m.IntN(4), strings.Fields("a b c d e g h"))
	case 2:
		if len(a.Names) > 0 {
			a.Names[m.IntN(len(a.Names))] = m.newName()
		}
	}
}
