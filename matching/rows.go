package matching

import (
	"slices"

	"leasehold/api"
)

// row is the number of a row in a table. Rows that are equal have the same number, so that they are found quickly. Only patterns with variants are kept: open is the row of patterns for any value, however many they are.
type row int

const open row = 0

// cell is the first pattern of a row that has a variant.
type cell struct {
	behind   int // how many patterns are behind it, with those for any value; this says which element of the row it is
	variants int // how many variants its data type has
	variant  int
	fields   row
	next     row // the patterns behind it
}

// table has the first cell of each row, and the rows by their cells.
type table struct {
	cells   []cell
	numbers map[cell]row
}

func newTable() *table {
	nothing := cell{behind: -1, variant: anyValue} // of the open row: no element has less behind it
	return &table{[]cell{nothing}, map[cell]row{}}
}

// joined returns the row of some cells before those of another row.
func (t *table) joined(cells []cell, next row) row {
	for _, c := range slices.Backward(cells) {
		c.next = next
		r, ok := t.numbers[c]
		if !ok {
			r = row(len(t.cells))
			t.cells, t.numbers[c] = append(t.cells, c), r
		}
		next = r
	}
	return next
}

// rows returns the patterns of a list as rows of their own, and whether all are right for a type.
func (t *table) rows(d []api.Data, of api.Type, l []api.Pattern) ([]row, bool) {
	rows := kept(l, func(x api.Pattern) (row, bool) {
		return t.read(d, []lazy{{Type: of}}, []api.Pattern{x})
	})
	return rows, len(rows) == len(l)
}

// read returns a list of patterns as a row, and whether each is right for its type.
func (t *table) read(d []api.Data, types []lazy, l []api.Pattern) (row, bool) {
	var cells []cell
	for i := range len(l) {
		x, variants := l[i], types[i].variants(d)
		if x.Variant == anyValue && len(x.Fields) == 0 {
			continue
		}
		if x.Variant < 0 || x.Variant >= len(variants) || len(x.Fields) != len(variants[x.Variant].Fields) {
			return open, false
		}
		fields, right := t.read(d, types[i].fields(variants[x.Variant]), x.Fields)
		if !right {
			return open, false
		}
		cells = append(cells, cell{behind: len(l) - 1 - i, variants: len(variants), variant: x.Variant, fields: fields})
	}
	return t.joined(cells, open), true
}

// variantAt returns a function for the variant that a row has in the element with a number of others behind it, if it has none before that.
func (t *table) variantAt(behind int) func(row) int {
	return func(r row) int {
		if c := t.cells[r]; c.behind == behind {
			return c.variant
		}
		return anyValue
	}
}

// opening returns a function that opens a row by the variant that it has in the element with a number of others behind it, or by any one, if it has none there.
func (t *table) opening(behind int) func(row) row {
	return func(r row) row {
		c := t.cells[r]
		if c.behind != behind {
			return r
		}
		var cells []cell
		for r = c.fields; r != open; r = t.cells[r].next {
			field := t.cells[r]
			field.behind += behind
			cells = append(cells, field)
		}
		return t.joined(cells, c.next)
	}
}

// rest returns what a row still asks of the values that another one matches, and whether both match some. Where both have a variant, it is as if there were no others.
func (t *table) rest(r, other row) (row, bool) {
	var cells []cell
	for ; r != open; r = t.cells[r].next {
		c := t.cells[r]
		for t.cells[other].behind > c.behind {
			other = t.cells[other].next
		}
		if known := t.cells[other]; known.behind == c.behind {
			if c.variant != known.variant {
				return open, false
			}
			fields, meet := t.rest(c.fields, known.fields)
			if !meet {
				return open, false
			}
			if fields == open {
				continue
			}
			c.variants, c.variant, c.fields = 1, 0, fields
		}
		cells = append(cells, c)
	}
	return t.joined(cells, open), true
}
