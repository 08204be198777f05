package lexer

import (
	"math/rand/v2"
	"regexp"
	"slices"
	"strconv"
	"strings"
	"testing"

	"leasehold/api"
)

// The chapter's words as regular expressions: a second description of the language, against which Lex is held.
var (
	gapWord    = regexp.MustCompile(`^(?:[ \t\r\n]|#[^\n]*)*`)
	nameWord   = regexp.MustCompile(`^[a-zA-Z][a-zA-Z0-9_]*`)
	numberWord = regexp.MustCompile(`^[0-9]+`)
	symbolWord = regexp.MustCompile(`^(?:&!|->|::|==|[<>(){}\[\],;:.=+*&-])`)
)

// expected is what A1 says of a text.
func expected(text string) ([]api.Token, api.Errno, int) {
	if len(text) > 20000 {
		return nil, api.ErrLimit, 20000
	}
	var l []api.Token
	for at := len(gapWord.FindString(text)); at < len(text); {
		x := api.Token{Offset: at}
		rest := text[at:]
		if s := nameWord.FindString(rest); s != "" {
			x.Kind, x.Text = api.TokName, s
		} else if s := numberWord.FindString(rest); s != "" {
			n, _ := strconv.ParseUint(s, 10, 64) // the greatest number if it is out of range
			if len(s) > 10 || n > 1000000000 {
				return nil, api.ErrLimit, at
			}
			x.Kind, x.Text, x.Number = api.TokNumber, s, int(n)
		} else if s := symbolWord.FindString(rest); s != "" {
			x.Kind, x.Text = api.TokSymbol, s
		} else {
			return nil, api.ErrChar, at
		}
		if x.Kind == api.TokName && len(x.Text) > 24 || len(l) == 6000 {
			return nil, api.ErrLimit, at
		}
		l = append(l, x)
		at += len(x.Text)
		at += len(gapWord.FindString(text[at:]))
	}
	return l, api.OK, 0
}

// isToken says whether a text is one token, however long.
func isToken(s string) bool {
	for _, r := range []*regexp.Regexp{nameWord, numberWord, symbolWord} {
		if s != "" && r.FindString(s) == s {
			return true
		}
	}
	return false
}

// P1.1: the result is that of the second description.
func checkA1(t *testing.T, text string) {
	t.Helper()
	l, err, at := Lex(text)
	l2, err2, at2 := expected(text)
	if err != err2 || at != at2 || !slices.Equal(l, l2) {
		t.Errorf("%q: %v, error %d at %d, want %v, error %d at %d", text, l, err, at, l2, err2, at2)
	}
}

// P1.2: tokens stand where they say, in order, and only gaps are between them.
func checkCover(t *testing.T, text string, l []api.Token) {
	t.Helper()
	end := 0
	for _, x := range l {
		if x.Offset < end || x.Text == "" || !strings.HasPrefix(text[x.Offset:], x.Text) {
			t.Errorf("%q: token %v does not stand there after offset %d", text, x, end)
			return
		}
		checkGap(t, text, end, x.Offset)
		end = x.Offset + len(x.Text)
	}
	checkGap(t, text, end, len(text))
}

func checkGap(t *testing.T, text string, from, to int) {
	t.Helper()
	if gap := text[from:to]; gapWord.FindString(gap) != gap {
		t.Errorf("%q: no gap: %q", text, gap)
	}
}

// P1.3: no token can be extended by the next byte.
func checkLongest(t *testing.T, text string, l []api.Token) {
	t.Helper()
	for _, x := range l {
		if end := x.Offset + len(x.Text); !isToken(x.Text) || end < len(text) && isToken(text[x.Offset:end+1]) {
			t.Errorf("%q: token %v is not the longest", text, x)
		}
	}
}

// P1.4: two texts with a line feed between them have the tokens of both.
func checkConcatenation(t *testing.T, a, b string) {
	t.Helper()
	la, ea, _ := Lex(a)
	lb, eb, _ := Lex(b)
	if ea != api.OK || eb != api.OK || len(la)+len(lb) > 6000 || len(a)+1+len(b) > 20000 {
		return
	}
	want := slices.Clone(la)
	for _, x := range lb {
		x.Offset += len(a) + 1
		want = append(want, x)
	}
	l, err, at := Lex(a + "\n" + b)
	if err != api.OK || at != 0 || !slices.Equal(l, want) {
		t.Errorf("%q and %q: %v, error %d at %d, want %v", a, b, l, err, at, want)
	}
}

// P1.5: the texts of tokens, separated by spaces, have the same tokens.
func checkSeparation(t *testing.T, l []api.Token) {
	t.Helper()
	text := join(l)
	if len(text) > 20000 {
		return
	}
	want := slices.Clone(l)
	next := 0
	for i := range want {
		want[i].Offset = next
		next += len(want[i].Text) + 1
	}
	again, err, at := Lex(text)
	if err != api.OK || at != 0 || !slices.Equal(again, want) {
		t.Errorf("%q: %v, error %d at %d, want %v", text, again, err, at, want)
	}
}

// P1.6: the text before an error has none.
func checkError(t *testing.T, text string, err api.Errno, at int) {
	t.Helper()
	if at < 0 || at >= len(text) {
		t.Fatalf("%q: error %d at %d", text, err, at)
	}
	if len(text) <= 20000 {
		if _, before, where := Lex(text[:at]); before != api.OK {
			t.Errorf("%q: error %d at %d, before error %d at %d", text, before, where, err, at)
		}
	}
}

// checkText checks each promise that is about one text.
func checkText(t *testing.T, text string) {
	t.Helper()
	checkA1(t, text)
	l, err, at := Lex(text)
	if err != api.OK {
		checkError(t, text, err, at)
		return
	}
	checkCover(t, text, l)
	checkLongest(t, text, l)
	checkSeparation(t, l)
}

// every calls a function with all texts of at most so many parts.
func every(parts []string, most int, f func(string)) {
	var grow func(string, int)
	grow = func(text string, left int) {
		f(text)
		for i := 0; left > 0 && i < len(parts); i++ {
			grow(text+parts[i], left-1)
		}
	}
	grow("", most)
}

var parts = []string{
	"a", "Z9_", "_", "let", "Box", "0", "7", "1000000000", "1000000001", "00000000001", "9999999999", strings.Repeat("n", 24), strings.Repeat("n", 25),
	"<", ">", "(", ")", "{", "}", "[", "]", ",", ";", ":", "::", ".", "=", "==", "+", "-", "*", "&", "&!", "->", "!", "/", "$", "\x00", "\x7f", "\x80", "é", "\xff",
	" ", "\t", "\r", "\n", "\v", "#", "# loan\n", "#é!\n",
}

// P1.1 to P1.6 for all short texts.
func TestShortTexts(t *testing.T) {
	var bytes []string
	for b := range 256 {
		bytes = append(bytes, string([]byte{byte(b)}))
	}
	every(bytes, 2, func(text string) { checkText(t, text) })
	every(parts, 3, func(text string) { checkText(t, text) })
	every(strings.Split("a1_&!-=:>#\n .", ""), 4, func(text string) { checkText(t, text) })
	every(parts, 1, func(a string) {
		every(parts, 1, func(b string) { checkConcatenation(t, a, b) })
	})
}

// randomText joins parts. Most texts have no part that is an error by itself, and no words that grow together, so that long ones have many tokens.
func randomText(r *rand.Rand, most int) string {
	var b strings.Builder
	bad := r.IntN(4) == 0
	for n := r.IntN(most + 1); n > 0; {
		s := parts[r.IntN(len(parts))]
		l, err, _ := expected(s)
		if err != api.OK && !bad {
			continue
		}
		b.WriteString(s)
		n--
		if r.IntN(2) == 0 || !bad && len(l) > 0 && l[0].Kind != api.TokSymbol {
			b.WriteString(" ")
		}
	}
	return b.String()
}

// P1.1 to P1.6 for long texts, also about the limits.
func TestRandomTexts(t *testing.T) {
	r := rand.New(rand.NewPCG(1, 2))
	for range 3000 {
		a, b := randomText(r, 20), randomText(r, 20)
		checkText(t, a)
		checkConcatenation(t, a, b)
	}
	for range 40 {
		a, b := randomText(r, 8000), randomText(r, 3000)
		checkText(t, a)
		checkConcatenation(t, a, b)
	}
}

// P1.4, P1.5 and P1.6 where the limits of texts are reached.
func TestPromisesAtLimits(t *testing.T) {
	full := strings.Repeat("a ", 3000)
	checkConcatenation(t, full, full)
	checkConcatenation(t, "# no line feed", "x")
	checkConcatenation(t, "x :", ": y")
	checkConcatenation(t, strings.Repeat(" ", 9999), strings.Repeat(" ", 10000))
	long := strings.Repeat("n", 24)
	for _, text := range []string{
		full + full, full + full + "b", strings.Repeat("!", 20001), strings.Repeat(long+"\n", 800), strings.Repeat(long+";", 769), strings.Repeat(long+"(", 799),
		strings.Repeat(" ", 19999) + "a", strings.Repeat(";", 6001), strings.Repeat("&", 6000), strings.Repeat("->", 6000), strings.Repeat("->", 6001), strings.Repeat("1000000000;", 1700),
	} {
		checkText(t, text)
	}
}

func FuzzLex(f *testing.F) {
	for _, s := range parts {
		f.Add(s, "x")
	}
	f.Add("let r = &!x; # loan", "fn main() -> Int { return 1; }")
	f.Fuzz(func(t *testing.T, a, b string) {
		checkText(t, a)
		checkText(t, a+b)
		checkConcatenation(t, a, b)
	})
}
