package matching

import "leasehold/api"

// witness builds the first missing row from its first element on.
type witness struct {
	*search
	d    []api.Data
	left fork // the rows that are left
}

// missing returns the element of the first missing row, and whether there is one, for sorted rows with one element.
func (s *search) missing(d []api.Data, t lazy, rows []row) (api.Pattern, bool) {
	if s.covers(rows) {
		return api.Pattern{}, false
	}
	w := witness{s, d, s.fork(rows)}
	return w.element(t, 0), true
}

// element returns the next element, which has a number of others behind it.
func (w *witness) element(t lazy, behind int) api.Pattern {
	if w.left.behind < behind {
		return api.Pattern{Variant: anyValue}
	}
	variant := w.open()
	types := t.fields(t.variants(w.d)[variant])
	fields := make([]api.Pattern, len(types))
	for i := range len(types) {
		fields[i] = w.element(types[i], behind+len(types)-1-i)
	}
	return api.Pattern{Variant: variant, Fields: fields}
}

// open opens the rows by the first variant for which a row is missing, and returns it. As a row is missing, there is one.
func (w *witness) open() int {
	variant, rows := 0, w.opened(w.left, 0)
	for variant < w.left.variants-1 && w.covers(rows) {
		variant++
		rows = w.opened(w.left, variant)
	}
	w.left = w.fork(rows)
	return variant
}
