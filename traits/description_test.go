package traits

import (
	"fmt"
	"maps"
	"regexp"
	"slices"
	"strings"
	"testing"

	"leasehold/api"
	"leasehold/unify"
)

// This file describes the package a second time: whether types have a common one is said by what stands at each place in it, goals are met by a list of those that are left, and all proofs are found from those for the bounds upwards.

// common is what is known of a type that several patterns become. A place in it is the text of the indices of the Args that lead to it, as letters.
type common struct {
	heads map[string]string // what stands at a place; nothing if that may be anything
	equal [][2]string       // two places at which the same parameter stands
	right bool              // whether no place has two different heads, and none is too deep
}

func (c *common) set(place, head string) {
	old := c.heads[place]
	if len(place) >= api.MaxDepth || old != "" && head != "" && old != head {
		c.right = false
	}
	c.heads[place] = max(old, head)
}

// add adds what a pattern says, at a place.
func (c *common) add(place string, t api.Type, params map[int]string) {
	if t.Kind == api.TyParam {
		c.set(place, "")
		if first, ok := params[t.Id]; ok {
			c.equal = append(c.equal, [2]string{first, place})
		}
		params[t.Id] = place
		return
	}
	c.set(place, fmt.Sprint(t.Kind, " ", t.Id, " ", len(t.Args)))
	for i, a := range t.Args {
		c.add(place+string(rune('a'+i)), a, params)
	}
}

// spread copies what stands at a place, and below it, to an equal one, until there is nothing new.
func (c *common) spread() {
	for changed := true; changed && c.right; {
		before := maps.Clone(c.heads)
		for _, e := range c.equal {
			for _, way := range [][2]string{e, {e[1], e[0]}} {
				for _, place := range slices.Sorted(maps.Keys(c.heads)) {
					if below, ok := strings.CutPrefix(place, way[0]); ok {
						c.set(way[1]+below, c.heads[place])
					}
				}
			}
		}
		changed = !maps.Equal(before, c.heads)
	}
}

var (
	partText    = regexp.MustCompile(`[A-Za-z0-9_-]+\(?`)
	generalText = regexp.MustCompile(`^(Int|D|Box|Chan)-?[0-9]*\(?$`)
)

// describeGeneral says whether an implementation can overlap with any.
func describeGeneral(m api.Impl) bool {
	if m.Params < 0 || m.Params > 4 || nesting(text(m.Type)) > 8 {
		return false
	}
	params := []string{"P0", "P1", "P2", "P3"}[:m.Params]
	return !slices.ContainsFunc(partText.FindAllString(text(m.Type), -1), func(part string) bool {
		return !generalText.MatchString(part) && !slices.Contains(params, part)
	})
}

// describeOverlap says what Overlap has to return.
func describeOverlap(a, b api.Impl) bool {
	if a.Trait != b.Trait || !describeGeneral(a) || !describeGeneral(b) {
		return false
	}
	c := common{heads: map[string]string{}, right: true}
	c.add("", a.Type, map[int]string{})
	c.add("", b.Type, map[int]string{})
	c.spread()
	return c.right
}

// complaint is an error of an implementation.
type complaint struct {
	err  api.Errno
	a, b int
}

// complaints returns all errors of a program, in the order in which they count.
func complaints(p api.Program) []complaint {
	var l []complaint
	complain := func(wrong bool, err api.Errno, a, b int) {
		if wrong {
			l = append(l, complaint{err, a, b})
		}
	}
	for i, m := range p.Impls {
		s := text(m.Type)
		local := strings.HasPrefix(s, "Arena") || strings.HasPrefix(s, "Shared") || strings.HasPrefix(s, "Excl")
		complain(m.Trait < 0 || m.Trait >= len(p.Traits) || m.Module < 0, api.ErrArg, i, i)
		complain(!unify.Valid(p, m.Params, m.Type) || local, api.ErrArg, i, i)
		for n := range min(m.Params, 10) { // a P12 is not well-formed
			complain(!strings.Contains(s, fmt.Sprint("P", n)), api.ErrArg, i, i)
		}
		for _, b := range m.Bounds {
			complain(b.Param < 0 || b.Param >= m.Params || b.Trait < 0 || b.Trait >= len(p.Traits), api.ErrArg, i, i)
		}
		homes := []int{}
		if m.Trait >= 0 && m.Trait < len(p.Homes) {
			homes = append(homes, p.Homes[m.Trait])
		}
		if m.Type.Kind == api.TyData && m.Type.Id >= 0 && m.Type.Id < len(p.Datas) {
			homes = append(homes, p.Datas[m.Type.Id].Module)
		}
		complain(!slices.Contains(homes, m.Module), api.ErrTrait, i, i)
		for j := range i {
			complain(describeOverlap(p.Impls[j], m), api.ErrOverlap, j, i)
		}
	}
	return l
}

// describeCoherent says what Coherent has to return.
func describeCoherent(p api.Program) complaint {
	return append(complaints(p), complaint{})[0]
}

// pending is a goal that is left, with the texts of those for which it is needed.
type pending struct {
	trait int
	t     api.Type
	above []string
}

// describeSelect says what Select has to return: a proof is described by the steps that are left of it when its brackets are taken away.
func describeSelect(p api.Program, assume []api.Bound, trait int, t api.Type) ([]string, api.Errno) {
	var steps []string
	for left := []pending{{trait, t, nil}}; len(left) > 0; {
		g := left[0]
		left = left[1:]
		name := goalText(g.trait, g.t)
		if len(steps) == 400 {
			return nil, api.ErrLimit
		}
		if slices.Contains(g.above, name) {
			return nil, api.ErrCycle
		}
		step, needed, ok := stepFor(p, assume, g)
		if !ok {
			return nil, api.ErrTrait
		}
		steps = append(steps, step)
		for i := range needed {
			needed[i].above = append(slices.Clone(g.above), name)
		}
		left = append(needed, left...)
	}
	return steps, api.OK
}

// describeFits says whether an assumed bound fits a goal.
func describeFits(b api.Bound, trait int, t api.Type) bool {
	name, _, _ := strings.Cut(text(t), "(")
	return b.Trait == trait && name == fmt.Sprint("P", b.Param)
}

// stepFor returns the step by which a goal is proved, and the goals that are needed for it.
func stepFor(p api.Program, assume []api.Bound, g pending) (string, []pending, bool) {
	for i, b := range assume {
		if describeFits(b, g.trait, g.t) {
			return fmt.Sprint("b", i), nil, true
		}
	}
	for i, m := range p.Impls {
		found, ok := unify.Match(m.Type, g.t, m.Params)
		if m.Trait != g.trait || !ok {
			continue
		}
		var needed []pending
		for _, b := range m.Bounds {
			need := pending{trait: b.Trait}
			if b.Param >= 0 && b.Param < len(found) {
				need.t = found[b.Param]
			}
			needed = append(needed, need)
		}
		return fmt.Sprint(i, texts(found), len(needed)), needed, true
	}
	return "", nil, false
}

// stepsOf returns the steps of a proof. They determine it, as each says from how many proofs it is.
func stepsOf(x api.Proof) []string {
	steps := []string{fmt.Sprint(x.Index, texts(x.Types), len(x.From))}
	if x.Bound {
		steps = []string{fmt.Sprint("b", x.Index)}
	}
	for _, f := range x.From {
		steps = append(steps, stepsOf(f)...)
	}
	return steps
}

// claim says that a goal has a proof.
type claim struct {
	trait int
	t     api.Type
	x     api.Proof
}

// describeProves says what Proves has to return: all claims that are made are right.
func describeProves(p api.Program, assume []api.Bound, first claim) bool {
	for left := []claim{first}; len(left) > 0; {
		c := left[0]
		left = left[1:]
		if c.x.Bound {
			i := c.x.Index
			if i < 0 || i >= len(assume) || !describeFits(assume[i], c.trait, c.t) || proofText(c.x) != fmt.Sprint("b", i) {
				return false
			}
			continue
		}
		if c.x.Index < 0 || c.x.Index >= len(p.Impls) {
			return false
		}
		m := p.Impls[c.x.Index]
		goal := goalText(m.Trait, unify.Subst(c.x.Types, m.Type))
		if len(c.x.Types) != m.Params || len(c.x.From) != len(m.Bounds) || goal != goalText(c.trait, c.t) {
			return false
		}
		for i, b := range m.Bounds {
			if b.Param < 0 || b.Param >= m.Params {
				return false
			}
			left = append(left, claim{b.Trait, c.x.Types[b.Param], c.x.From[i]})
		}
	}
	return true
}

// proofs are the texts of proofs, by the texts of their goals.
type proofs map[string]map[string]bool

func (l proofs) add(goal, proof string) {
	if l[goal] == nil {
		l[goal] = map[string]bool{}
	}
	l[goal][proof] = true
}

// describeProofs returns all proofs with at most a number of levels and with no more than a number of proofs for each bound, in which only some types are Types.
func describeProofs(p api.Program, assume []api.Bound, some []api.Type, levels, most int) proofs {
	all := proofs{}
	for i, b := range assume {
		all.add(fmt.Sprint(b.Trait, " P", b.Param), fmt.Sprint("b", i))
	}
	for range levels {
		found := proofs{}
		for i, m := range p.Impls {
			lists(m.Params, some, func(chosen []api.Type) {
				goal := goalText(m.Trait, unify.Subst(chosen, m.Type))
				for _, from := range combinations(all, m.Bounds, chosen, most) {
					found.add(goal, withFrom(i, chosen, from))
				}
			})
		}
		for i, b := range assume {
			found.add(fmt.Sprint(b.Trait, " P", b.Param), fmt.Sprint("b", i))
		}
		all = found
	}
	return all
}

func withFrom(index int, chosen []api.Type, from []string) string {
	s := fmt.Sprint(index)
	if len(chosen) > 0 {
		s += "[" + strings.Join(texts(chosen), ",") + "]"
	}
	if len(from) > 0 {
		s += "(" + strings.Join(from, ",") + ")"
	}
	return s
}

// combinations returns the lists of one proof for each bound.
func combinations(all proofs, l []api.Bound, chosen []api.Type, most int) [][]string {
	made := [][]string{nil}
	for _, b := range l {
		if b.Param < 0 || b.Param >= len(chosen) {
			return nil
		}
		var longer [][]string
		one := slices.Sorted(maps.Keys(all[goalText(b.Trait, chosen[b.Param])]))
		for _, list := range made {
			for _, x := range one[:min(len(one), most)] {
				longer = append(longer, append(slices.Clone(list), x))
			}
		}
		made = longer
	}
	return made
}

// checkOverlap holds Overlap against the description, in both orders (P6.2).
func checkOverlap(t *testing.T, a, b api.Impl) bool {
	t.Helper()
	want := describeOverlap(a, b)
	if got, other := Overlap(a, b), Overlap(b, a); got != want || other != want {
		t.Fatalf("%s and %s: %v, exchanged %v, want %v", implText(a), implText(b), got, other, want)
	}
	return want
}

// checkCoherent holds Coherent against the description.
func checkCoherent(t *testing.T, p api.Program) api.Errno {
	t.Helper()
	err, a, b := Coherent(p)
	if want := describeCoherent(p); (complaint{err, a, b}) != want {
		t.Fatalf("%s: error %d, %d, %d, want %v", implTexts(p), err, a, b, want)
	}
	return err
}

// callText returns the text of the arguments of a call.
func callText(p api.Program, assume []api.Bound, trait int, x api.Type) string {
	return fmt.Sprint(implTexts(p), " with ", boundTexts(assume), ": ", goalText(trait, x))
}

// checkSelect holds Select against the description. It returns the proof, and the error.
func checkSelect(t *testing.T, p api.Program, assume []api.Bound, trait int, x api.Type) (api.Proof, api.Errno) {
	t.Helper()
	given := callText(p, assume, trait, x)
	want, wantErr := describeSelect(p, assume, trait, x)
	got, err := Select(p, assume, trait, x)
	if err != wantErr || err == api.OK && !slices.Equal(stepsOf(got), want) || err != api.OK && !isZeroProof(got) {
		t.Fatalf("%s: %s, error %d, want %v, error %d", given, proofText(got), err, want, wantErr)
	}
	if after := callText(p, assume, trait, x); after != given {
		t.Fatalf("%s became %s", given, after)
	}
	checkNew(t, p, x, got)
	return got, err
}

// checkProves holds Proves against the description.
func checkProves(t *testing.T, p api.Program, assume []api.Bound, trait int, x api.Type, y api.Proof) bool {
	t.Helper()
	given := callText(p, assume, trait, x) + " by " + proofText(y)
	want := describeProves(p, assume, claim{trait, x, y})
	if got := Proves(p, assume, trait, x, y); got != want {
		t.Fatalf("%s: %v", given, got)
	}
	if after := callText(p, assume, trait, x) + " by " + proofText(y); after != given {
		t.Fatalf("%s became %s", given, after)
	}
	return want
}

// typeLists returns the Types of a proof and of those that it is from.
func typeLists(x api.Proof) [][]api.Type {
	l := [][]api.Type{x.Types}
	for _, f := range x.From {
		l = append(l, typeLists(f)...)
	}
	return l
}

// checkNew checks that a proof shares no memory with itself, a program or a type.
func checkNew(t *testing.T, p api.Program, x api.Type, got api.Proof) {
	t.Helper()
	used := map[*api.Type]bool{}
	mark := func(part api.Type) (shared bool) {
		if len(part.Args) > 0 {
			shared = used[&part.Args[0]]
			used[&part.Args[0]] = true
		}
		return shared
	}
	given := []api.Type{x}
	for _, m := range p.Impls {
		given = append(given, m.Type)
	}
	for _, g := range given { // these may share memory with each other
		has(g, func(part api.Type) bool {
			mark(part)
			return false
		})
	}
	for _, l := range typeLists(got) {
		if has(api.Type{Args: l}, mark) {
			t.Fatalf("%s of %s shares memory", proofText(got), text(x))
		}
	}
}
