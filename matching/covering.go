package matching

import (
	"cmp"
	"slices"
	"strconv"
)

// memory is how many bytes of lists a search remembers; there could be more lists than a computer can hold.
const memory = 1 << 27

// search finds out whether rows match all values.
type search struct {
	*table
	known map[string]bool // whether lists of rows do
	left  int             // bytes of memory
}

func (t *table) newSearch() *search { return &search{t, map[string]bool{}, memory} }

// covers reports whether, whatever the values are, one of some rows matches. The rows are sorted.
func (s *search) covers(rows []row) bool {
	for len(rows) > 0 && rows[len(rows)-1] != open {
		f := s.fork(rows)
		switch {
		case len(f.groups) < f.variants:
			rows = f.others // no other rows match a variant that none of them has
		case f.variants == 1:
			rows = s.opened(f, 0)
		default:
			return s.coversVariants(rows, f)
		}
	}
	return len(rows) > 0
}

func (s *search) coversVariants(rows []row, f fork) bool {
	key := text(rows)
	if covered, ok := s.known[key]; ok {
		return covered
	}
	covered := true
	for v := 0; covered && v < f.variants; v++ {
		covered = s.covers(s.opened(f, v))
	}
	if len(key) <= s.left {
		s.known[key] = covered
		s.left -= len(key)
	}
	return covered
}

// text returns a text that no other list of rows has.
func text(rows []row) string {
	var key []byte
	for _, r := range rows {
		key = append(strconv.AppendInt(key, int64(r), 36), ' ')
	}
	return string(key)
}

// sorted returns rows in the order of the first elements in which they have variants, each only once. The open row is the last one.
func (t *table) sorted(rows []row) []row {
	slices.SortFunc(rows, func(a, b row) int {
		return cmp.Or(cmp.Compare(t.cells[b].behind, t.cells[a].behind), cmp.Compare(a, b))
	})
	return slices.Compact(rows)
}

// fork has the rows of a list by their variants in the first element in which one of them has a variant.
type fork struct {
	cell
	groups map[int][]row
	others []row // those without one there
}

// fork returns the fork of rows, which are sorted.
func (t *table) fork(rows []row) fork {
	first, end := t.cells[open], 0
	if len(rows) > 0 {
		first = t.cells[rows[0]]
	}
	for end < len(rows) && t.cells[rows[end]].behind == first.behind {
		end++
	}
	return fork{first, grouped(rows[:end], t.variantAt(first.behind)), rows[end:]}
}

// opened returns the rows, opened by a variant.
func (t *table) opened(f fork, variant int) []row {
	return t.sorted(mapped(slices.Concat(f.groups[variant], f.others), t.opening(f.behind)))
}
