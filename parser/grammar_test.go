package parser

import (
	"regexp"
	"strconv"
	"strings"

	"leasehold/api"
	"leasehold/lexer"
)

// The grammar as it stands in the chapter: a second description of the language, against which the errors of Parse are held.
const chapter = `
module   = "module" NAME ";" { "use" NAME ";" } { item } .
item     = data | trait | impl | function .
data     = "data" NAME [ params ] "{" variant { "," variant } "}" [ "drop" ( "panic" | NUMBER ) ] ";" .
variant  = NAME [ "(" type { "," type } ")" ] .
trait    = "trait" NAME ";" .
impl     = "impl" [ params ] NAME "for" type [ where ] "=" NAME ";" .
function = "fn" NAME [ params ] "(" [ args ] ")" "->" type [ where ] block .
params   = "<" NAME { "," NAME } ">" .
where    = "where" NAME ":" NAME { "," NAME ":" NAME } .
args     = arg { "," arg } .
arg      = NAME ":" type .
type     = "Int" | "Arena" | "Box" "<" type ">" | "Chan" "<" type ">" | "&" type | "&!" type
         | NAME [ "<" type { "," type } ">" ] .
block    = "{" { stmt } "}" .
stmt     = "let" NAME [ ":" type ] "=" expr ";" | NAME "=" expr ";" | "*" NAME "=" NAME ";"
         | "if" NAME block [ "else" block ] | "while" NAME block | "match" NAME "{" arm { arm } "}"
         | "return" NAME ";" | "panic" ";" | "drop" NAME ";" | "print" NAME ";" | "send" NAME NAME ";"
         | "spawn" NAME "(" [ names ] ")" ";" | local .
local    = "fn" NAME "[" [ capture { "," capture } ] "]" "(" [ args ] ")" "->" type block .
capture  = ( "move" | "&" | "&!" ) arg .
arm      = NAME [ "(" names ")" ] block .
names    = NAME { "," NAME } .
expr     = [ "-" ] NUMBER | NAME | NAME ( "+" | "-" | "*" | "<" | "==" ) NAME | "new" NAME "." NAME [ "(" names ")" ]
         | "box" NAME | "unbox" NAME | "&" NAME | "&!" NAME | "&" "*" NAME | "&!" "*" NAME | "&" "in" NAME | "&!" "in" NAME
         | NAME "." NUMBER | "*" NAME | NAME "(" [ names ] ")" | NAME "::" NAME | "arena" | "alloc" NAME NAME
         | "chan" type | "recv" NAME .
`

var keys = strings.Fields("module use data trait impl for where fn let if else while match return panic drop print send spawn new box unbox in arena alloc chan recv move Int Arena Box Chan")

var signs = strings.Fields("< > ( ) { } [ ] , ; : :: . = == + - * & &! ->")

// allWords has each key word and each symbol, a name and a number.
func allWords() []string {
	l := append([]string{"x", "7"}, keys...)
	return append(l, signs...)
}

// grammar has the alternatives of each rule; a rule without one is a terminal: a word in quotation marks, NAME or NUMBER.
type grammar struct {
	rules map[string][][]string
	empty map[string]bool
	words []string // those of the chapter that are not read yet
}

func newGrammar() *grammar {
	g := &grammar{rules: map[string][][]string{}, empty: map[string]bool{}, words: regexp.MustCompile(`"[^"]*"|\w+|\S`).FindAllString(chapter, -1)}
	for len(g.words) > 0 {
		name := g.take()
		g.take()
		g.rules[name] = g.choice(".")
	}
	g.findEmpty()
	return g
}

func (g *grammar) take() string {
	w := g.words[0]
	g.words = g.words[1:]
	return w
}

// choice reads alternatives up to a closing word. Parts in brackets become rules of their own.
func (g *grammar) choice(closing string) [][]string {
	l := [][]string{nil}
	for {
		last := len(l) - 1
		switch w := g.take(); w {
		case closing:
			return l
		case "|":
			l = append(l, nil)
		case "(":
			l[last] = append(l[last], g.part(g.choice(")")))
		case "[":
			l[last] = append(l[last], g.part(append(g.choice("]"), nil)))
		case "{":
			name := g.part([][]string{nil})
			for _, alternative := range g.choice("}") {
				g.rules[name] = append(g.rules[name], append([]string{name}, alternative...))
			}
			l[last] = append(l[last], name)
		default:
			l[last] = append(l[last], w)
		}
	}
}

func (g *grammar) part(alternatives [][]string) string {
	name := "part" + strconv.Itoa(len(g.rules))
	g.rules[name] = alternatives
	return name
}

func (g *grammar) findEmpty() {
	for again := true; again; {
		again = false
		for name, alternatives := range g.rules {
			for _, alternative := range alternatives {
				all := true
				for _, s := range alternative {
					all = all && g.empty[s]
				}
				if all && !g.empty[name] {
					g.empty[name], again = true, true
				}
			}
		}
	}
}

// state is an alternative of a rule of which a part has been read, from a column on.
type state struct {
	rule                   string
	alternative, dot, from int
}

type column struct {
	states []state
	seen   map[state]bool
}

func (c *column) add(s state) {
	if !c.seen[s] {
		c.seen[s] = true
		c.states = append(c.states, s)
	}
}

// chart is Earley's: a column after each terminal has all the ways in which a module can begin with the terminals up to it.
type chart struct {
	g       *grammar
	columns []*column
}

func newChart(g *grammar) *chart {
	c := &chart{g: g}
	first := &column{seen: map[state]bool{}}
	first.add(state{rule: "module"})
	c.complete(first, 0)
	c.columns = []*column{first}
	return c
}

func (c *chart) symbol(s state) (string, bool) {
	if l := c.g.rules[s.rule][s.alternative]; s.dot < len(l) {
		return l[s.dot], true
	}
	return "", false
}

func (s state) next() state {
	s.dot++
	return s
}

func (c *chart) complete(k *column, index int) {
	for i := 0; i < len(k.states); i++ {
		s := k.states[i]
		x, more := c.symbol(s)
		if !more && s.from < index {
			for _, before := range c.columns[s.from].states {
				if y, more := c.symbol(before); more && y == s.rule {
					k.add(before.next())
				}
			}
		}
		for a := range c.g.rules[x] {
			k.add(state{rule: x, alternative: a, from: index})
		}
		if c.g.empty[x] {
			k.add(s.next())
		}
	}
}

// after returns the column after one more terminal; nil if no module begins with it.
func (c *chart) after(terminal string) *column {
	k := &column{seen: map[state]bool{}}
	for _, s := range c.columns[len(c.columns)-1].states {
		if x, more := c.symbol(s); more && x == terminal {
			k.add(s.next())
		}
	}
	if len(k.states) == 0 {
		return nil
	}
	c.complete(k, len(c.columns))
	return k
}

// isModule says whether what has been read up to a column is a module.
func (c *chart) isModule(k *column) bool {
	for _, s := range k.states {
		if _, more := c.symbol(s); !more && s.rule == "module" && s.from == 0 {
			return true
		}
	}
	return false
}

var isKey = func() map[string]bool {
	m := map[string]bool{}
	for _, w := range keys {
		m[w] = true
	}
	return m
}()

func terminal(t api.Token) string {
	switch {
	case t.Kind == api.TokNumber:
		return "NUMBER"
	case t.Kind == api.TokName && !isKey[t.Text]:
		return "NAME"
	}
	return `"` + t.Text + `"`
}

var chapterGrammar = newGrammar()

// verdict is what B1 says of the error of a text.
func verdict(text string) (api.Errno, int) {
	tokens, err, at := lexer.Lex(text)
	if err != api.OK {
		return err, at
	}
	c := newChart(chapterGrammar)
	for _, t := range tokens {
		k := c.after(terminal(t))
		if k == nil {
			return api.ErrSyntax, t.Offset
		}
		c.columns = append(c.columns, k)
	}
	if !c.isModule(c.columns[len(tokens)]) {
		return api.ErrEnd, len(text)
	}
	return api.OK, 0
}
