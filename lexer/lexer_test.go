package lexer

import (
	"slices"
	"strings"
	"testing"

	"leasehold/api"
)

// word is a token without its offset, of the kind that its first byte shows.
func word(text string, number, offset int) api.Token {
	kind := api.TokSymbol
	switch b := text[0]; {
	case b >= '0' && b <= '9':
		kind = api.TokNumber
	case b >= 'a' && b <= 'z' || b >= 'A' && b <= 'Z':
		kind = api.TokName
	}
	return api.Token{Kind: kind, Text: text, Number: number, Offset: offset}
}

func join(l []api.Token) string {
	var texts []string
	for _, t := range l {
		texts = append(texts, t.Text)
	}
	return strings.Join(texts, " ")
}

// accepts fails the test unless the texts of the tokens, joined by spaces, are as wanted.
func accepts(t *testing.T, text, want string) {
	t.Helper()
	l, err, at := Lex(text)
	if err != api.OK || at != 0 || join(l) != want {
		t.Errorf("%.60q: tokens %.60q, error %d at %d, want %.60q", text, join(l), err, at, want)
	}
}

func refuses(t *testing.T, text string, want api.Errno, offset int) {
	t.Helper()
	l, err, at := Lex(text)
	if err != want || at != offset || len(l) != 0 {
		t.Errorf("%.60q: %d tokens, error %d at %d, want %d at %d", text, len(l), err, at, want, offset)
	}
}

// P1.1: kinds, texts, numbers and offsets of tokens.
func TestTokens(t *testing.T) {
	for _, c := range []struct {
		text string
		want []api.Token
	}{
		{"", nil},
		{"let r = &!x; # loan", []api.Token{word("let", 0, 0), word("r", 0, 4), word("=", 0, 6), word("&!", 0, 8), word("x", 0, 10), word(";", 0, 11)}},
		{"a::b<-1", []api.Token{word("a", 0, 0), word("::", 0, 1), word("b", 0, 3), word("<", 0, 4), word("-", 0, 5), word("1", 1, 6)}},
		{"x->y", []api.Token{word("x", 0, 0), word("->", 0, 1), word("y", 0, 3)}},
		{"\t42 #\r\n 007", []api.Token{word("42", 42, 1), word("007", 7, 8)}},
		{"0 00 0000000000", []api.Token{word("0", 0, 0), word("00", 0, 2), word("0000000000", 0, 5)}},
		{"999999999 1000000000", []api.Token{word("999999999", 999999999, 0), word("1000000000", 1000000000, 10)}},
		{"A z_Z9__", []api.Token{word("A", 0, 0), word("z_Z9__", 0, 2)}},
	} {
		l, err, at := Lex(c.text)
		if err != api.OK || at != 0 || !slices.Equal(l, c.want) {
			t.Errorf("%q: %v, error %d at %d, want %v", c.text, l, err, at, c.want)
		}
	}
}

// P1.1: each symbol is a token, and there are no others.
func TestSymbols(t *testing.T) {
	all := strings.Fields("< > ( ) { } [ ] , ; : :: . = == + - * & &! ->")
	for _, s := range all {
		l, err, _ := Lex(s)
		if err != api.OK || len(l) != 1 || l[0] != word(s, 0, 0) {
			t.Errorf("%q: %v, error %d", s, l, err)
		}
	}
	for a := range 256 {
		for b := range 256 {
			s := string([]byte{byte(a), byte(b)})
			l, err, _ := Lex(s)
			if err == api.OK && len(l) == 1 && l[0].Text == s && l[0].Kind == api.TokSymbol && !slices.Contains(all, s) {
				t.Errorf("%q is no symbol", s)
			}
		}
	}
}

// P1.1: gaps are blank space and comments, and nothing else.
func TestGaps(t *testing.T) {
	for _, text := range []string{" ", "\t", "\r", "\n", " \t\r\n", "#", "#\n", "# all", "##", "# a\n# b", "#\r", "#\x00_!$\xff\xc3é\n", " #"} {
		accepts(t, text, "")
	}
	accepts(t, "a#b\nc", "a c")
	accepts(t, "a# b # c\n#d\n\ne#", "a e")
	accepts(t, "a # b\r! _ c", "a")
	accepts(t, "1#2\n3", "1 3")
	accepts(t, "&#!\n:#:\n:", "& : :")
	refuses(t, "#\n!", api.ErrChar, 2)
	refuses(t, "a\vb", api.ErrChar, 1)
	refuses(t, "a\fb", api.ErrChar, 1)
	refuses(t, "a\u00a0b", api.ErrChar, 1)
}

// P1.1, P1.3: at each offset the longest token is taken.
func TestLongest(t *testing.T) {
	for _, c := range [][2]string{
		{"&!", "&!"}, {"&&!", "& &!"}, {"&!&", "&! &"}, {"& !", ""}, {"->", "->"}, {"-->", "- ->"}, {"->>", "-> >"}, {"<->", "< ->"}, {"- >", "- >"},
		{"::", "::"}, {":::", ":: :"}, {"::::", ":: ::"}, {": :", ": :"}, {"==", "=="}, {"===", "== ="}, {"====", "== =="}, {"= =", "= ="}, {"=-", "= -"}, {"&=", "& ="}, {"==>", "== >"}, {".:", ". :"},
		{"aa", "aa"}, {"a1_", "a1_"}, {"1a", "1 a"}, {"12ab_3", "12 ab_3"}, {"a-1", "a - 1"}, {"Box<&!T>", "Box < &! T >"}, {"[{(,;.+*)}]", "[ { ( , ; . + * ) } ]"},
	} {
		if c[1] == "" {
			refuses(t, c[0], api.ErrChar, 2)
		} else {
			accepts(t, c[0], c[1])
		}
	}
}

// P1.1: bytes that begin no token.
func TestInvalidBytes(t *testing.T) {
	for b := range 256 {
		c := string([]byte{byte(b)})
		switch {
		case strings.Contains("<>(){}[],;:.=+-*&", c) || b >= '0' && b <= '9' || b >= 'a' && b <= 'z' || b >= 'A' && b <= 'Z':
			accepts(t, c, c)
		case strings.Contains(" \t\r\n#", c):
			accepts(t, c, "")
		default:
			refuses(t, c, api.ErrChar, 0)
			refuses(t, "x "+c, api.ErrChar, 2)
			refuses(t, "( "+c+" )", api.ErrChar, 2)
			accepts(t, "x #"+c+"\ny", "x y")
		}
	}
	refuses(t, "a ! b", api.ErrChar, 2)
	refuses(t, "&!!", api.ErrChar, 2)
	refuses(t, "=!", api.ErrChar, 1)
	refuses(t, "_a", api.ErrChar, 0)
	refuses(t, "1_0", api.ErrChar, 1)
	refuses(t, "é", api.ErrChar, 0)
	refuses(t, "aé", api.ErrChar, 1)
	refuses(t, "a\x00", api.ErrChar, 1)
}

// P1.1: limits of names and numbers.
func TestLongWords(t *testing.T) {
	long := strings.Repeat("a_9", 8)
	accepts(t, long, long)
	accepts(t, long+" "+long, long+" "+long)
	accepts(t, long+"+", long+" +")
	refuses(t, long+"b", api.ErrLimit, 0)
	refuses(t, " "+long+"_", api.ErrLimit, 1)
	refuses(t, "x\n"+long+"0", api.ErrLimit, 2)
	refuses(t, strings.Repeat("a", api.MaxSource), api.ErrLimit, 0)
	for _, n := range []string{"1000000000", "0999999999", "0000000001", "0000000000"} {
		accepts(t, n, n)
		refuses(t, "- 0"+n, api.ErrLimit, 2)
	}
	refuses(t, "1000000001", api.ErrLimit, 0)
	refuses(t, "x=9999999999;", api.ErrLimit, 2)
	refuses(t, "00000000001", api.ErrLimit, 0)
	refuses(t, "9223372036854775808", api.ErrLimit, 0)
	refuses(t, "18446744073709551617", api.ErrLimit, 0)
	refuses(t, strings.Repeat("0", api.MaxSource), api.ErrLimit, 0)
}

// P1.1: limits of texts.
func TestLongTexts(t *testing.T) {
	full := strings.Repeat("a ", api.MaxTokens)
	accepts(t, full, strings.TrimSpace(full))
	accepts(t, full+"# b", strings.TrimSpace(full))
	refuses(t, full+"b", api.ErrLimit, 12000)
	refuses(t, full+" \n;", api.ErrLimit, 12002)
	refuses(t, full+"1000000001", api.ErrLimit, 12000)
	refuses(t, full+"!", api.ErrChar, 12000)
	refuses(t, full+"b !", api.ErrLimit, 12000)
	accepts(t, strings.Repeat(";", api.MaxTokens), strings.TrimSpace(strings.Repeat("; ", api.MaxTokens)))
	refuses(t, strings.Repeat(";", api.MaxTokens+1), api.ErrLimit, 6000)
	accepts(t, strings.Repeat(" ", api.MaxSource), "")
	accepts(t, "#"+strings.Repeat("!", api.MaxSource-1), "")
	accepts(t, strings.Repeat(" ", api.MaxSource-1)+"z", "z")
	refuses(t, strings.Repeat(" ", api.MaxSource-1)+"!", api.ErrChar, 19999)
	refuses(t, strings.Repeat(" ", api.MaxSource+1), api.ErrLimit, 20000)
	refuses(t, strings.Repeat("#", api.MaxSource+1), api.ErrLimit, 20000)
	refuses(t, strings.Repeat("!", api.MaxSource+1), api.ErrLimit, 20000)
	refuses(t, strings.Repeat("!", 3*api.MaxSource), api.ErrLimit, 20000)
}

// P1.1: of several errors, the one with the least offset.
func TestFirstError(t *testing.T) {
	long := strings.Repeat("n", api.MaxName+1)
	refuses(t, "x 1000000001 !", api.ErrLimit, 2)
	refuses(t, "x ! 1000000001", api.ErrChar, 2)
	refuses(t, "$ "+long, api.ErrChar, 0)
	refuses(t, long+" $", api.ErrLimit, 0)
	refuses(t, "1 "+long+" 1000000001", api.ErrLimit, 2)
	refuses(t, "! _", api.ErrChar, 0)
	refuses(t, long+"!", api.ErrLimit, 0)
	refuses(t, "\xff"+strings.Repeat(";", api.MaxTokens+1), api.ErrChar, 0)
	refuses(t, strings.Repeat(";", api.MaxTokens+1)+"!", api.ErrLimit, 6000)
}

// Rules: a result depends on the text alone, and does not change with what a caller does to an earlier result.
func TestCallsAreIndependent(t *testing.T) {
	text := "fn main() -> Int { return 1; }"
	first, _, _ := Lex(text)
	want := slices.Clone(first)
	clear(first)
	Lex("!")
	second, _, _ := Lex(text)
	if !slices.Equal(second, want) {
		t.Errorf("%v, want %v", second, want)
	}
}
