package matching

import (
	"cmp"
	"maps"
	"slices"
)

// numbered is a row with the index of its pattern, and whether it is asked if it is useful.
type numbered struct {
	row
	index int
	asked bool
}

// useless returns the indices of the rows that are not useful after those before them.
func (t *table) useless(rows []row) []int {
	var all []numbered
	for i, r := range rows {
		all = append(all, numbered{r, i, true})
	}
	var useless []int
	for lists := [][]numbered{all}; len(lists) > 0; {
		l, late := fresh(lists[len(lists)-1])
		parts, others := t.divided(l)
		useless = append(append(useless, late...), t.covered(others, l)...)
		lists = append(lists[:len(lists)-1], parts...)
	}
	slices.Sort(useless)
	return useless
}

// fresh returns the rows that are neither equal to one before them, nor behind one that matches all values; and the indices of the asked ones that are.
func fresh(l []numbered) (rows []numbered, late []int) {
	seen := map[row]bool{}
	for _, n := range l {
		switch {
		case !seen[n.row] && !seen[open]:
			rows = append(rows, n)
		case n.asked:
			late = append(late, n.index)
		}
		seen[n.row] = true
	}
	return rows, late
}

// divided divides rows by their variants in the first element in which one of them has a variant, since rows with different ones there match no value in common. The others are returned too, and are in each part, so that what they match is known there.
func (t *table) divided(l []numbered) (parts [][]numbered, others []numbered) {
	behind := -1
	for _, n := range l {
		behind = max(behind, t.cells[n.row].behind)
	}
	variant, opening := t.variantAt(behind), t.opening(behind)
	groups := grouped(l, func(n numbered) int { return variant(n.row) })
	others = groups[anyValue]
	delete(groups, anyValue)
	known := mapped(others, func(n numbered) numbered { return numbered{n.row, n.index, false} })
	for _, v := range slices.Sorted(maps.Keys(groups)) {
		if !slices.ContainsFunc(groups[v], func(n numbered) bool { return n.asked }) {
			continue
		}
		part := mapped(slices.Concat(groups[v], known), func(n numbered) numbered {
			return numbered{opening(n.row), n.index, n.asked}
		})
		slices.SortFunc(part, func(a, b numbered) int { return cmp.Compare(a.index, b.index) })
		parts = append(parts, part)
	}
	return parts, others
}

// covered returns the indices of the asked rows of a list that match only what rows before them in another list match.
func (t *table) covered(l, all []numbered) []int {
	var covered []int
	for _, n := range l {
		if !n.asked {
			continue
		}
		rest := kept(all, func(earlier numbered) (row, bool) {
			if earlier.index >= n.index {
				return open, false
			}
			return t.rest(earlier.row, n.row)
		})
		if t.newSearch().covers(t.sorted(rest)) {
			covered = append(covered, n.index)
		}
	}
	return covered
}
