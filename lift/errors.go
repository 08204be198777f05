package lift

import "leasehold/api"

// failure is the first error, which ends lifting by a panic.
type failure struct {
	err    api.Errno
	offset int
}

func refuseIf(wrong bool, err api.Errno, offset int) {
	if wrong {
		panic(failure{err, offset})
	}
}

// examine looks for errors in the functions of a module. This comes before lifting, so that nothing is built of a module with an error: the names of functions in functions can be much longer than the module.
func examine(functions []api.FuncDef) {
	for i := range functions {
		f := &functions[i]
		refuseIf(len(f.Captures) > 0, api.ErrArg, f.Offset)
		examineBlock(f.Body)
	}
}

func examineBlock(block []api.Stmt) {
	for i := range block {
		s := &block[i]
		refuseIf(!isRight(s), api.ErrArg, s.Offset)
		for k := range s.Func {
			examineLocal(&s.Func[k])
		}
		examineBlock(s.Then)
		examineBlock(s.Else)
		for k := range s.Arms {
			examineBlock(s.Arms[k].Body)
		}
	}
}

// isRight reports whether a statement has a function, and nothing else with statements in it, exactly if its Kind is that of local functions.
func isRight(s *api.Stmt) bool {
	if s.Kind != api.StFunc {
		return len(s.Func) == 0
	}
	return len(s.Func) == 1 && len(s.Then)+len(s.Else)+len(s.Arms) == 0
}

func examineLocal(f *api.FuncDef) {
	names := map[string]bool{}
	for _, list := range [][]api.ArgDef{f.Captures, f.Args} {
		for _, a := range list {
			refuseIf(names[a.Name], api.ErrTwice, a.Offset)
			names[a.Name] = true
		}
	}
	refuseIf(len(f.Captures)+len(f.Args) > api.MaxFields, api.ErrLimit, f.Offset)
	examineBlock(f.Body)
}
