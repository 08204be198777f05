package check

import (
	"slices"
	"strconv"
	"strings"
	"testing"

	"leasehold/api"
	"leasehold/unify"
)

// This file says, by the rules of chapter 11, when the blocks of a checked body make a function valid.

// inspector has what the rules need of a function.
type inspector struct {
	p      api.Program
	g      api.Func
	locals []string
}

// fault returns what is wrong with a checked body of a function, or nothing.
func fault(p api.Program, fn int, typed api.Typed) string {
	v := &inspector{p: p, g: p.Funcs[fn]}
	for i, t := range typed.Locals {
		if !unify.Valid(p, v.g.Params, t) {
			return "the type of " + strconv.Itoa(i)
		}
		v.locals = append(v.locals, text(t))
	}
	if len(typed.Locals) > api.MaxLocals {
		return "too many locals"
	}
	return v.block(typed.Body)
}

func (v *inspector) block(l []api.Node) string {
	for _, n := range l {
		if s := v.node(n); s != "" {
			return nodeText(n) + ": " + s
		}
	}
	return ""
}

func (v *inspector) node(n api.Node) string {
	switch n.Kind {
	case api.NdIns:
		if n.Ins.Op == api.OpOpen || n.Ins.Op == api.OpSplit {
			if d, ok := v.data(v.at(n.Ins.A)); ok && len(d.Variants) > 1 {
				return "not at the beginning of its arm"
			}
		}
		return v.ins(n.Ins)
	case api.NdIf, api.NdWhile:
		if v.at(n.A) != "Int" {
			return "no Int"
		}
		return v.block(n.Then) + v.block(n.Else)
	case api.NdMatch:
		d, ok := v.data(v.at(n.A))
		if !ok || len(d.Variants) != len(n.Arms) {
			return "the number of arms"
		}
		for i, arm := range n.Arms {
			if len(arm) == 0 || arm[0].Ins.A != n.A || arm[0].Ins.B != i {
				return "the beginning of an arm"
			}
			if s := v.ins(arm[0].Ins) + v.block(arm[1:]); s != "" {
				return s
			}
		}
		return ""
	case api.NdReturn:
		if v.at(n.A) != text(v.g.Result) {
			return "the result"
		}
		return ""
	case api.NdPanic:
		return ""
	}
	return "the Kind"
}

// at returns the type of a local.
func (v *inspector) at(local int) string {
	if local < 0 || local >= len(v.locals) {
		return "none"
	}
	return v.locals[local]
}

// data returns the data type of a type, or of what it refers to.
func (v *inspector) data(x string) (d api.Data, ok bool) {
	if x == "none" {
		return d, false
	}
	t := ty(x)
	if t.Kind == api.TyShared || t.Kind == api.TyExcl {
		t = t.Args[0]
	}
	if t.Kind != api.TyData || t.Id < 0 || t.Id >= len(v.p.Datas) {
		return d, false
	}
	return v.p.Datas[t.Id], true
}

// behind returns the Kind of a reference, and to what it refers.
func behind(x string) (kind, inside string) {
	kind, inside, _ = strings.Cut(x, "(")
	if kind != "Shared" && kind != "Excl" {
		return "", ""
	}
	return kind, strings.TrimSuffix(inside, ")")
}

func isStoredText(x string) bool {
	return x != "none" && slices.Contains([]int{api.TyInt, api.TyData, api.TyBox, api.TyChan, api.TyParam}, ty(x).Kind)
}

// allAre reports whether the types of locals are those of a list in which the parameters are replaced.
func (v *inspector) allAre(locals []int, types []api.Type, args []api.Type, kind string) bool {
	return slices.EqualFunc(locals, types, func(a int, t api.Type) bool {
		x := text(unify.Subst(args, t))
		if kind != "" {
			x = kind + "(" + x + ")"
		}
		return v.at(a) == x
	})
}

func (v *inspector) areStored(types []api.Type) bool {
	return !slices.ContainsFunc(types, func(t api.Type) bool { return !isStoredText(text(t)) || !unify.Valid(v.p, v.g.Params, t) })
}

func (v *inspector) ins(i api.Ins) string {
	if !v.isRight(i) {
		return "not valid"
	}
	used := i.Op == api.OpConst || i.Op == api.OpMake || i.Op == api.OpCall || i.Op == api.OpMethod || i.Op == api.OpSpawn
	if !used && i.N != 0 || len(i.Types) > 0 && !used {
		return "what it has no use for"
	}
	return ""
}

func (v *inspector) isRight(i api.Ins) bool {
	d, a, b := v.at(i.Dst), v.at(i.A), v.at(i.B)
	kind, inside := behind(a)
	to, target := behind(d)
	switch i.Op {
	case api.OpConst:
		return d == "Int" && i.N <= 1e9 && i.N >= -1e9
	case api.OpAdd, api.OpSub, api.OpMul, api.OpLess, api.OpEqual:
		return d == "Int" && a == "Int" && b == "Int"
	case api.OpTake:
		return d == a
	case api.OpMake:
		data, ok := v.data(text(api.Type{Kind: api.TyData, Id: i.N}))
		if !ok || i.B < 0 || i.B >= len(data.Variants) {
			return false
		}
		t := api.Type{Kind: api.TyData, Id: i.N, Args: i.Types}
		return len(i.Types) == data.Params && v.areStored(i.Types) && d == text(t) && v.allAre(i.Args, data.Variants[i.B].Fields, i.Types, "")
	case api.OpOpen:
		data, ok := v.data(a)
		distinct := slices.Compact(slices.Sorted(slices.Values(i.Args)))
		return ok && i.B >= 0 && i.B < len(data.Variants) && kind == "" && len(distinct) == len(i.Args) && v.allAre(i.Args, data.Variants[i.B].Fields, ty(a).Args, "")
	case api.OpSplit:
		data, ok := v.data(a)
		distinct := slices.Compact(slices.Sorted(slices.Values(i.Args)))
		return ok && i.B >= 0 && i.B < len(data.Variants) && kind != "" && len(distinct) == len(i.Args) && v.allAre(i.Args, data.Variants[i.B].Fields, ty(inside).Args, kind)
	case api.OpBox:
		return isStoredText(a) && d == "Box("+a+")"
	case api.OpUnbox:
		return a == "Box("+d+")"
	case api.OpLoan:
		return to != "" && target == a && (isStoredText(a) || a == "Arena" && to == "Shared")
	case api.OpRe:
		return kind != "" && to != "" && inside == target && (kind == "Excl" || to == "Shared")
	case api.OpIn:
		return kind != "" && to != "" && inside == "Box("+target+")" && (kind == "Excl" || to == "Shared")
	case api.OpLoad:
		return kind != "" && inside == d && (d == "Int" || strings.HasPrefix(d, "Chan("))
	case api.OpStore:
		return a == "Excl("+b+")"
	case api.OpDrop:
		return a == "Arena" || strings.HasPrefix(a, "Box(") || a[0] == 'D' || a[0] == 'P'
	case api.OpPrint:
		return a == "Int"
	case api.OpArena:
		return d == "Arena"
	case api.OpAlloc:
		return a == "Shared(Arena)" && isStoredText(b) && d == "Excl("+b+")"
	case api.OpChan:
		return strings.HasPrefix(d, "Chan(")
	case api.OpSend:
		return a == "Chan("+b+")"
	case api.OpRecv:
		return a == "Chan("+d+")"
	}
	return v.isRightCall(i)
}

func (v *inspector) isRightCall(i api.Ins) bool {
	if i.Op == api.OpMethod {
		return i.N >= 0 && i.N < len(v.p.Traits) && len(i.Types) == 1 && len(i.Args) == 1 && v.areStored(i.Types) && v.at(i.Args[0]) == "Shared("+text(i.Types[0])+")" && v.at(i.Dst) == "Int"
	}
	if i.Op != api.OpCall && i.Op != api.OpSpawn || i.N < 0 || i.N >= len(v.p.Funcs) {
		return false
	}
	f := v.p.Funcs[i.N]
	right := len(i.Types) == f.Params && v.areStored(i.Types) && v.allAre(i.Args, f.Locals, i.Types, "")
	if i.Op == api.OpCall {
		return right && v.at(i.Dst) == text(unify.Subst(i.Types, f.Result))
	}
	for _, a := range i.Args {
		right = right && isStoredText(v.at(a))
	}
	return right && isStoredText(text(unify.Subst(i.Types, f.Result)))
}

// The rules find something wrong with a body in which any number or type is changed.
func TestFaults(t *testing.T) {
	s := read(t, "fn f(a: &!Pair, l: List<Int>) -> Int { let x = a.0; let n = *x; while n { n = n - n; } match l { cons(h, r) { let i = id(h); return i; } nil { return n; } } }")
	typed, err, _ := Body(s.p, s.fn, s.f)
	if err != api.OK || fault(s.p, s.fn, typed) != "" {
		t.Fatal(err, fault(s.p, s.fn, typed))
	}
	found := 0
	eachNumber(&typed, func(n *int) {
		*n += 5
		if fault(s.p, s.fn, typed) != "" {
			found++
		}
		*n -= 5
	})
	if found < 40 {
		t.Errorf("only %d changes were found", found)
	}
}

// eachNumber calls a function with the address of each number of a checked body.
func eachNumber(typed *api.Typed, f func(*int)) {
	var types func(l []api.Type)
	types = func(l []api.Type) {
		for i := range l {
			f(&l[i].Kind)
			f(&l[i].Id)
			types(l[i].Args)
		}
	}
	var nodes func(l []api.Node)
	nodes = func(l []api.Node) {
		for i := range l {
			n := &l[i]
			for _, x := range []*int{&n.Kind, &n.A, &n.Ins.Op, &n.Ins.Dst, &n.Ins.A, &n.Ins.B, &n.Ins.N} {
				f(x)
			}
			for k := range n.Ins.Args {
				f(&n.Ins.Args[k])
			}
			types(n.Ins.Types)
			nodes(n.Then)
			nodes(n.Else)
			for _, arm := range n.Arms {
				nodes(arm)
			}
		}
	}
	types(typed.Locals)
	nodes(typed.Body)
}
