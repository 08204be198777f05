// Package lexer is layer 1: it divides source texts into tokens (see shared/doc/01-lexer.md).
package lexer

import (
	"iter"
	"strconv"
	"strings"

	"leasehold/api"
)

// class is a bit, so that sets of classes are numbers too; a byte that is in none of the classes can still begin a symbol.
type class uint8

const (
	blank class = 1 << iota
	hash
	letter
	digit
	underscore
)

const (
	symbols   = "< > ( ) { } [ ] , ; : :: . = == + - * & &! ->"
	maxSymbol = 2  // bytes of the longest symbol
	maxDigits = 10 // digits of a number, leading zeros included
)

// tables says what bytes and texts are in a source text.
type tables struct {
	classes [256]class
	symbols map[string]bool
}

// Lex returns the tokens of a text; with an error, the offset at which it is found.
func Lex(text string) ([]api.Token, api.Errno, int) {
	if len(text) > api.MaxSource {
		return nil, api.ErrLimit, api.MaxSource
	}
	var list []api.Token
	for token, err := range newTables().tokens(text) {
		if err == api.OK && len(list) == api.MaxTokens {
			err = api.ErrLimit
		}
		if err != api.OK {
			return nil, err, token.Offset
		}
		list = append(list, token)
	}
	return list, api.OK, 0
}

func newTables() *tables {
	t := &tables{symbols: map[string]bool{}}
	for _, b := range []byte(" \t\r\n") {
		t.classes[b] = blank
	}
	for b := byte('a'); b <= 'z'; b++ {
		t.classes[b] = letter
	}
	for b := byte('A'); b <= 'Z'; b++ {
		t.classes[b] = letter
	}
	for b := byte('0'); b <= '9'; b++ {
		t.classes[b] = digit
	}
	t.classes['#'] = hash
	t.classes['_'] = underscore
	for _, s := range strings.Fields(symbols) {
		t.symbols[s] = true
	}
	return t
}

// tokens yields the tokens of a text in order. An error is yielded last, with a token that has only the offset of the error.
func (t *tables) tokens(text string) iter.Seq2[api.Token, api.Errno] {
	return func(yield func(api.Token, api.Errno) bool) {
		at := t.gapEnd(text, 0)
		for at < len(text) {
			token, err := t.token(text, at)
			if !yield(token, err) || err != api.OK {
				return
			}
			at = t.gapEnd(text, at+len(token.Text))
		}
	}
}

// gapEnd returns the offset at which the gap that begins at an offset ends; a gap can be empty.
func (t *tables) gapEnd(text string, at int) int {
	for at < len(text) {
		switch t.classes[text[at]] {
		case blank:
			at = t.runEnd(text, at, blank)
		case hash:
			at = commentEnd(text, at)
		default:
			return at
		}
	}
	return at
}

// commentEnd stops before the line feed, which is blank space and no part of the comment.
func commentEnd(text string, at int) int {
	if n := strings.IndexByte(text[at:], '\n'); n >= 0 {
		return at + n
	}
	return len(text)
}

// runEnd returns the offset at which the run of bytes whose classes are in a set ends.
func (t *tables) runEnd(text string, at int, set class) int {
	for at < len(text) && t.classes[text[at]]&set != 0 {
		at++
	}
	return at
}

// token returns the longest token that begins at an offset.
func (t *tables) token(text string, at int) (api.Token, api.Errno) {
	switch t.classes[text[at]] {
	case letter:
		return name(text[at:t.runEnd(text, at, letter|digit|underscore)], at)
	case digit:
		return number(text[at:t.runEnd(text, at, digit)], at)
	default:
		return t.symbol(text, at)
	}
}

func name(word string, at int) (api.Token, api.Errno) {
	if len(word) > api.MaxName {
		return api.Token{Offset: at}, api.ErrLimit
	}
	return api.Token{Kind: api.TokName, Text: word, Offset: at}, api.OK
}

func number(digits string, at int) (api.Token, api.Errno) {
	n, err := strconv.Atoi(digits)
	if err != nil || len(digits) > maxDigits || n > api.MaxNumber {
		return api.Token{Offset: at}, api.ErrLimit
	}
	return api.Token{Kind: api.TokNumber, Text: digits, Number: n, Offset: at}, api.OK
}

// symbol looks for longer symbols first, because &! begins with the symbol &.
func (t *tables) symbol(text string, at int) (api.Token, api.Errno) {
	for n := min(maxSymbol, len(text)-at); n > 0; n-- {
		if s := text[at : at+n]; t.symbols[s] {
			return api.Token{Kind: api.TokSymbol, Text: s, Offset: at}, api.OK
		}
	}
	return api.Token{Offset: at}, api.ErrChar
}
