package lift

import (
	"math/rand/v2"
	"slices"
	"strconv"
	"strings"

	"leasehold/api"
)

// maker makes random modules, whose parts all have different offsets.
type maker struct {
	*rand.Rand
	wrong  int  // one of so many parts is wrong; 0: none is
	fields bool // statements have also fields that have no meaning for their Kinds
	offset int
}

func seeded(n uint64) *maker { return &maker{Rand: rand.New(rand.NewPCG(n, 9))} }

func (m *maker) one(words string) string {
	l := strings.Fields(words)
	return l[m.IntN(len(l))]
}

// rarely says that something wrong is to be made.
func (m *maker) rarely() bool { return m.wrong > 0 && m.IntN(m.wrong) == 0 }

func (m *maker) next() int {
	m.offset += 1 + m.IntN(3)
	return m.offset
}

func (m *maker) variable() string { return m.one("a b c d e g n") }

func (m *maker) variables(n int) []string {
	var l []string
	for range n {
		l = append(l, m.variable())
	}
	return l
}

func (m *maker) typeExpr(levels int) api.TypeExpr {
	t := api.TypeExpr{Name: m.one("Int Int P Q R S D List Box & &!"), Offset: m.next()}
	for range m.IntN(3) {
		if levels > 1 {
			t.Args = append(t.Args, m.typeExpr(levels-1))
		}
	}
	return t
}

func (m *maker) types() []api.TypeExpr {
	if m.IntN(6) > 0 {
		return nil
	}
	return []api.TypeExpr{m.typeExpr(2)}
}

// args makes captures and arguments, mostly with different names.
func (m *maker) args(n, captures int) (l []api.ArgDef) {
	names := strings.Fields("a b c d e g n o p q r")
	m.Shuffle(len(names), func(i, k int) { names[i], names[k] = names[k], names[i] })
	for i := range n {
		a := api.ArgDef{Name: names[i], Type: m.typeExpr(3), Offset: m.next()}
		if i > 0 && m.rarely() {
			a.Name = names[m.IntN(i)]
		}
		if i < captures {
			a.Capture = []int{0, 1, 2, 0, 1, 2, 1, 2, 3, -1}[m.IntN(10)]
		}
		l = append(l, a)
	}
	return l
}

func (m *maker) function(name string, size int) api.FuncDef {
	f := api.FuncDef{Name: name, Offset: m.next(), Args: m.args(m.IntN(4), 0), Result: m.typeExpr(2)}
	for _, param := range strings.Fields("P Q R S")[:m.IntN(5)] {
		f.Params = append(f.Params, param)
		if m.IntN(10) == 0 {
			f.Params = append(f.Params, m.one("P Q R Box &"))
		}
	}
	for range m.IntN(6) {
		f.Bounds = append(f.Bounds, api.BoundDef{Param: m.one("P Q R S Int"), Trait: m.one("T U V"), Offset: m.next()})
	}
	if m.wrong > 0 && m.IntN(8*m.wrong) == 0 {
		f.Captures = m.args(1, 1)
	}
	f.Body = m.block(size)
	return f
}

func (m *maker) local(size int) api.FuncDef {
	f := api.FuncDef{Name: m.one("f g h k n"), Offset: m.next()}
	n := []int{0, 1, 2, 3, 4, 5, 8, 9}[m.IntN(7)]
	if m.rarely() {
		n = 9
	}
	captures := m.IntN(n + 1)
	all := m.args(n, captures)
	f.Captures, f.Args = all[:captures:captures], all[captures:]
	f.Result = m.typeExpr(2)
	if m.IntN(10) == 0 {
		f.Params, f.Bounds = []string{m.one("P Q X")}, []api.BoundDef{{Param: "P", Trait: "W"}}
	}
	f.Body = m.block(size)
	return f
}

func (m *maker) block(size int) []api.Stmt {
	var l []api.Stmt
	for range m.IntN(size + 1) {
		l = append(l, m.statement(size*2/3))
	}
	return l
}

func (m *maker) call() api.Expr {
	return api.Expr{Kind: api.ExCall, Name: m.one("f g h k n"), Names: m.variables(m.IntN(3)), Offset: m.next()}
}

func (m *maker) arms(size int) []api.ArmDef {
	var l []api.ArmDef
	for range m.IntN(4) {
		l = append(l, api.ArmDef{Variant: m.one("v w"), Names: m.variables(m.IntN(3)), Body: m.block(size), Offset: m.next()})
	}
	return l
}

func (m *maker) statement(size int) api.Stmt {
	kinds := []int{api.StFunc, api.StFunc, api.StFunc, api.StLet, api.StLet, api.StSet, api.StSpawn, api.StIf, api.StMatch, m.IntN(api.StFunc+2) - 1}
	s := api.Stmt{Kind: kinds[m.IntN(len(kinds))], Name: m.one("f g h k n a b"), Type: m.types(), Offset: m.next()}
	switch s.Kind {
	case api.StFunc:
		for range 1 + m.changed() {
			s.Func = append(s.Func, m.local(size))
		}
		if m.rarely() {
			m.fill(&s, 2)
		}
		return s
	case api.StLet, api.StSet:
		s.Expr = m.call()
	case api.StSpawn:
		s.Names = m.variables(m.IntN(3))
	case api.StIf:
		s.Then, s.Else = m.block(size), m.block(size)
	case api.StWhile:
		s.Then = m.block(size)
	case api.StMatch:
		s.Arms = m.arms(size)
	}
	if m.fields && m.IntN(3) == 0 {
		m.fill(&s, size)
	}
	if m.rarely() {
		s.Func = []api.FuncDef{m.local(2)}
	}
	return s
}

// changed returns by how much a number is wrong, mostly 0.
func (m *maker) changed() int {
	if m.rarely() {
		return 2*m.IntN(2) - 1
	}
	return 0
}

// fill sets some of the fields that any statement can have.
func (m *maker) fill(s *api.Stmt, size int) {
	switch m.IntN(6) {
	case 0:
		s.Then = m.block(size)
	case 1:
		s.Else = m.block(size)
	case 2:
		s.Arms = m.arms(size)
	case 3:
		s.Expr = m.call()
		s.Expr.Kind = m.IntN(api.ExRecv + 2)
		s.Expr.Type = []api.TypeExpr{m.typeExpr(2), m.typeExpr(1)}
	case 4:
		s.Names = m.variables(2)
		s.Expr = m.call()
	case 5:
		s.Type = []api.TypeExpr{m.typeExpr(2), m.typeExpr(2)}
	}
}

// module makes a module, whose functions have different names.
func (m *maker) module() api.Module {
	names := strings.Fields("f g main k")
	m.Shuffle(len(names), func(i, k int) { names[i], names[k] = names[k], names[i] })
	made := api.Module{Name: m.one("m n"), Uses: m.variables(m.IntN(3))}
	for range m.IntN(3) {
		made.Datas = append(made.Datas, api.DataDef{Name: m.one("D List"), Params: m.variables(m.IntN(3)), Drop: m.IntN(9) - 1, Offset: m.next(), Variants: []api.VariantDef{{Name: "v", Offset: m.next()}, {Name: "w", Fields: []api.TypeExpr{m.typeExpr(3)}}}})
		made.Traits = append(made.Traits, api.TraitDef{Name: m.one("T U V"), Offset: m.next()})
		made.Impls = append(made.Impls, api.ImplDef{Trait: m.one("T U V"), Params: m.variables(m.IntN(2)), Bounds: []api.BoundDef{{Param: "P", Trait: "T", Offset: m.next()}}, Type: m.typeExpr(3), Func: "f", Offset: m.next()})
	}
	for _, name := range names[:m.IntN(4)] {
		made.Funcs = append(made.Funcs, m.function(name, 5))
	}
	return made
}

// withArguments gives each call of a visible local function a name for each argument.
func (m *maker) withArguments(old api.Module) api.Module {
	made := clone(old)
	list := places(made)
	var block func(l []api.Stmt, at way)
	block = func(l []api.Stmt, at way) {
		for i := range l {
			s, here := &l[i], at.to(strconv.Itoa(i))
			if p := meant(list, s.Expr.Name, here); p != nil {
				s.Expr.Names = m.variables(len(p.f.Args))
			}
			if p := meant(list, s.Name, here); p != nil && s.Kind == api.StSpawn {
				s.Names = m.variables(len(p.f.Args))
			}
			inside(*s, here, block)
			for k := range s.Func {
				block(s.Func[k].Body, here.to("body"))
			}
		}
	}
	for i := range made.Funcs {
		block(made.Funcs[i].Body, way{strconv.Itoa(i), "body"})
	}
	return made
}

// withoutLocals leaves out all local functions.
func withoutLocals(block []api.Stmt) []api.Stmt {
	block = slices.DeleteFunc(slices.Clone(block), func(s api.Stmt) bool { return s.Kind == api.StFunc })
	for i := range block {
		s := &block[i]
		s.Then, s.Else, s.Arms = withoutLocals(s.Then), withoutLocals(s.Else), slices.Clone(s.Arms)
		for k := range s.Arms {
			s.Arms[k].Body = withoutLocals(s.Arms[k].Body)
		}
	}
	return block
}
