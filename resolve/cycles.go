package resolve

import "leasehold/api"

// refuseCycles ends the examination at the first data type of the module that contains itself; first is the index of the first one. Data types of other modules cannot contain any of this one.
func (b *builder) refuseCycles(l []api.DataDef, first int) {
	parts := map[int][]int{}
	for i := range l {
		parts[first+i] = partsOf(b.program.Datas[first+i])
	}
	for i, d := range l {
		refuseIf(containsItself(parts, first+i), api.ErrCycle, d.Offset)
	}
}

// partsOf returns the data types that occur in the fields of a data type, but not within Box or Chan.
func partsOf(d api.Data) []int {
	var parts []int
	var look func(t api.Type)
	look = func(t api.Type) {
		if t.Kind != api.TyData {
			return
		}
		parts = append(parts, t.Id)
		for _, a := range t.Args {
			look(a)
		}
	}
	for _, v := range d.Variants {
		for _, field := range v.Fields {
			look(field)
		}
	}
	return parts
}

// containsItself searches depth-first for a data type in its parts, and in theirs.
func containsItself(parts map[int][]int, data int) bool {
	reached := map[int]bool{}
	var visit func(d int)
	visit = func(d int) {
		for _, part := range parts[d] {
			if !reached[part] {
				reached[part] = true
				visit(part)
			}
		}
	}
	visit(data)
	return reached[data]
}
