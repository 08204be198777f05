package parser

import (
	"slices"
	"strings"

	"leasehold/api"
)

const keyWords = "module use data trait impl for where fn let if else while match return panic drop print send spawn " +
	"new box unbox in arena alloc chan recv move Int Arena Box Chan"

// reader reads tokens from left to right, and looks only at the next one. No token is taken unless a module can go on with it, so the first one at which reading stops is the one with the error.
type reader struct {
	tokens     []api.Token // those that are left
	size       int         // bytes of the text
	keys       map[string]bool
	statements map[string]statement
}

func newReader(tokens []api.Token, size int) *reader {
	r := &reader{tokens: tokens, size: size, keys: map[string]bool{}, statements: statements()}
	for _, word := range strings.Fields(keyWords) {
		r.keys[word] = true
	}
	return r
}

// refuse ends reading with the error of the next token, or of the end of the text.
func (r *reader) refuse() {
	err := api.ErrSyntax
	if r.done() {
		err = api.ErrEnd
	}
	panic(failure{err, r.offset()})
}

func (r *reader) done() bool { return len(r.tokens) == 0 }

// offset returns where the next token begins, or the text ends.
func (r *reader) offset() int {
	if r.done() {
		return r.size
	}
	return r.tokens[0].Offset
}

// word returns the text of the next token, which is empty only at the end.
func (r *reader) word() string {
	if r.done() {
		return ""
	}
	return r.tokens[0].Text
}

// take returns the next token, and goes on to the one after it.
func (r *reader) take() api.Token {
	token := r.tokens[0]
	r.tokens = r.tokens[1:]
	return token
}

// accept takes the next token if it is one of some words.
func (r *reader) accept(words ...string) bool {
	if !slices.Contains(words, r.word()) {
		return false
	}
	r.take()
	return true
}

// expect takes the next token, which has to be one of some words, and returns which one it is.
func (r *reader) expect(words ...string) string {
	word := r.word()
	if !r.accept(words...) {
		r.refuse()
	}
	return word
}

func (r *reader) isNext(kind int) bool { return !r.done() && r.tokens[0].Kind == kind }

func (r *reader) name() string {
	if !r.isNext(api.TokName) || r.keys[r.word()] {
		r.refuse()
	}
	return r.take().Text
}

func (r *reader) number() int {
	if !r.isNext(api.TokNumber) {
		r.refuse()
	}
	return r.take().Number
}

// list reads one element or more, with commas in between.
func list[T any](r *reader, read func() T) []T {
	elements := []T{read()}
	for r.accept(",") {
		elements = append(elements, read())
	}
	return elements
}

// optionalList reads a list in brackets, or nothing if there is no opening one.
func optionalList[T any](r *reader, opening string, read func() T, closing string) []T {
	if !r.accept(opening) {
		return nil
	}
	elements := list(r, read)
	r.expect(closing)
	return elements
}

// possiblyEmptyList reads brackets with or without a list in between.
func possiblyEmptyList[T any](r *reader, opening string, read func() T, closing string) []T {
	r.expect(opening)
	if r.accept(closing) {
		return nil
	}
	elements := list(r, read)
	r.expect(closing)
	return elements
}

// untilBrace reads elements without anything in between, and the brace after the last one.
func untilBrace[T any](r *reader, read func() T) []T {
	var elements []T
	for !r.accept("}") {
		elements = append(elements, read())
	}
	return elements
}
