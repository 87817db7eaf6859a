package tests

import (
	"fmt"
	"math/rand"
	"regexp"
	"slices"
	"strings"
	"testing"

	"loop.example/g00023/impl"
)

// picksOf makes Picks of "app 1, lib 2".
func picksOf(s string) []impl.Pick {
	picks := []impl.Pick{}
	for _, piece := range strings.FieldsFunc(s, func(r rune) bool { return r == ',' }) {
		name, version, _ := strings.Cut(strings.TrimPrefix(piece, " "), " ")
		picks = append(picks, impl.Pick{Name: name, Version: version})
	}
	return picks
}

func shownPicks(picks []impl.Pick) string {
	words := []string{}
	for _, pick := range picks {
		words = append(words, pick.Name+" "+pick.Version)
	}
	return strings.Join(words, ", ")
}

func wantsOf(wants ...string) []impl.Wanted {
	list := []impl.Wanted{}
	for _, s := range wants {
		name, want, _ := strings.Cut(s, " ")
		list = append(list, impl.Wanted{Name: name, Want: want})
	}
	return list
}

// problem wants all that stands in one text with ; between.
func problem(ix []impl.Recipe, wants string) impl.Problem {
	return impl.Problem{Index: ix, Wants: wantsOf(strings.FieldsFunc(wants, func(r rune) bool { return r == ';' })...)}
}

func (s solved) is(t *testing.T, what string, code int64, picks string, why ...int64) {
	t.Helper()
	if s.Code != code || shownPicks(s.Picks) != picks || !slices.Equal(s.Why, why) {
		t.Errorf("%s: %d, %s, %v, not %d, %s, %v", what, s.Code, shownPicks(s.Picks), s.Why, code, picks, why)
	}
}

type solved struct{ impl.Solution }

func solve(p impl.Problem) solved { return solved{impl.Solve(p)} }

func upgrade(p impl.Problem, names ...string) solved { return solved{impl.Upgrade(p, names)} }

// What follows, up to plainSolve, is the chapter in plain words, with all choices gone through.

// What was asked once is kept: all choices ask the same again and again.
var heldBefore, matchedBefore = map[string]bool{}, map[[2]string]bool{}

func plainHolds(when string, flags []string) bool {
	key := when + ":" + strings.Join(flags, " ")
	if _, ok := heldBefore[key]; !ok {
		cs, isRead := impl.ReadCond(when)
		heldBefore[key] = isRead && impl.Holds(cs, flags)
	}
	return heldBefore[key]
}

func plainFits(want, version string) bool {
	key := [2]string{want, version}
	if _, ok := matchedBefore[key]; !ok {
		matchedBefore[key] = plainMatches(want, version)
	}
	return matchedBefore[key]
}

func plainGrown(made impl.Recipe, flags []string) []string {
	grown := slices.Clone(flags)
	for at := 0; at < len(grown); at++ {
		for _, feature := range made.Features {
			if feature.Name != grown[at] {
				continue
			}
			for _, need := range feature.Needs {
				if !slices.Contains(grown, need) {
					grown = append(grown, need)
				}
			}
		}
	}
	return grown
}

func plainActive(made impl.Recipe, flags []string) []impl.Dep {
	deps := []impl.Dep{}
	for _, dep := range made.Deps {
		if plainHolds(dep.When, plainGrown(made, flags)) {
			deps = append(deps, dep)
		}
	}
	return deps
}

func plainVersionIn(picks []impl.Pick, name string) (string, bool) {
	for _, pick := range picks {
		if pick.Name == name {
			return pick.Version, true
		}
	}
	return "", false
}

func plainRecipeIn(ix []impl.Recipe, pick impl.Pick) (impl.Recipe, bool) {
	for _, made := range ix {
		if made.Name == pick.Name && made.Version == pick.Version {
			return made, true
		}
	}
	return impl.Recipe{}, false
}

func plainIsChoice(ix []impl.Recipe, picks []impl.Pick) bool {
	for i, pick := range picks {
		if _, ok := plainRecipeIn(ix, pick); !ok || i > 0 && picks[i-1].Name >= pick.Name {
			return false
		}
	}
	return true
}

func plainRight(p impl.Problem, picks []impl.Pick) bool {
	if !plainIsChoice(p.Index, picks) {
		return false
	}
	used := map[string]bool{}
	for _, wanted := range p.Wants {
		version, ok := plainVersionIn(picks, wanted.Name)
		if !ok || !plainFits(wanted.Want, version) {
			return false
		}
		used[wanted.Name] = true
	}
	for _, pick := range picks {
		made, _ := plainRecipeIn(p.Index, pick)
		if !plainHolds(made.When, p.Flags) {
			return false
		}
		for _, dep := range plainActive(made, p.Flags) {
			version, ok := plainVersionIn(picks, dep.Name)
			if ok && !plainFits(dep.Want, version) || !ok && dep.Kind != impl.DepOptional {
				return false
			}
		}
	}
	for before := -1; before < len(used); {
		before = len(used)
		for _, pick := range picks {
			made, _ := plainRecipeIn(p.Index, pick)
			for _, dep := range plainActive(made, p.Flags) {
				if used[pick.Name] && dep.Kind == impl.DepNeed {
					used[dep.Name] = true
				}
			}
		}
	}
	return !slices.ContainsFunc(picks, func(pick impl.Pick) bool { return !used[pick.Name] })
}

func plainBetter(p impl.Problem, a, b []impl.Pick) bool {
	if !plainIsChoice(p.Index, a) || !plainIsChoice(p.Index, b) {
		return false
	}
	names := []string{}
	for _, pick := range append(slices.Clone(a), b...) {
		names = append(names, pick.Name)
	}
	slices.Sort(names)
	for _, name := range names {
		one, isPicked := plainVersionIn(a, name)
		other, isOther := plainVersionIn(b, name)
		locked, _ := plainVersionIn(p.Lock, name)
		switch {
		case isPicked != isOther:
			return isOther
		case one == other:
			continue
		case one == locked || other == locked:
			return one == locked
		}
		return plainCompare(one, other) == 1
	}
	return false
}

func everyChoice(ix []impl.Recipe, see func(picks []impl.Pick)) {
	var walk func(at int, picks []impl.Pick)
	walk = func(at int, picks []impl.Pick) {
		if at == len(ix) {
			see(picks)
			return
		}
		walk(at+1, picks)
		if len(picks) == 0 || picks[len(picks)-1].Name != ix[at].Name {
			walk(at+1, append(slices.Clone(picks), impl.Pick{Name: ix[at].Name, Version: ix[at].Version}))
		}
	}
	walk(0, nil)
}

func plainBest(p impl.Problem) ([]impl.Pick, bool) {
	best, found := []impl.Pick{}, false
	everyChoice(p.Index, func(picks []impl.Pick) {
		if plainRight(p, picks) && (!found || plainBetter(p, picks, best)) {
			best, found = picks, true
		}
	})
	return best, found
}

func plainSolve(p impl.Problem) impl.Solution {
	if picks, ok := plainBest(p); ok {
		return impl.Solution{Picks: picks}
	}
	left := []int64{}
	for number := range p.Wants {
		left = append(left, int64(number))
	}
	for number := int64(len(p.Wants) - 1); number >= 0; number-- {
		fewer := slices.DeleteFunc(slices.Clone(left), func(n int64) bool { return n == number })
		if _, ok := plainBest(wantingOnly(p, fewer)); !ok {
			left = fewer
		}
	}
	return impl.Solution{Code: impl.SolveNone, Why: left}
}

func wantingOnly(p impl.Problem, numbers []int64) impl.Problem {
	all := p.Wants
	p.Wants = nil
	for _, number := range numbers {
		p.Wants = append(p.Wants, all[number])
	}
	return p
}

func TestProblemOk(t *testing.T) {
	whole := func() impl.Problem {
		p := problem(smallIndex(), "app *;lib >=1;app ^2")
		p.Flags, p.Lock = strings.Fields("linux tls linux"), picksOf("app 2, lib 9.9, nowhere 1")
		return p
	}
	for _, row := range []struct {
		what   string
		change func(p *impl.Problem)
		want   bool
	}{
		{"a whole one", func(p *impl.Problem) {}, true},
		{"the zero value", func(p *impl.Problem) { *p = impl.Problem{} }, true},
		{"an index that is none", func(p *impl.Problem) { slices.Reverse(p.Index) }, false},
		{"an index with a recipe that can't be", func(p *impl.Problem) { p.Index[9].Version = "" }, false},
		{"an index with two of one version", func(p *impl.Problem) { p.Index[2].Version = "1-10" }, false},
		{"no index", func(p *impl.Problem) { p.Index = nil }, true},
		{"an index of MaxIndex", func(p *impl.Problem) { p.Index = manyRecipes(200) }, true},
		{"an index of one more", func(p *impl.Problem) { p.Index = manyRecipes(201) }, false},
		{"MaxDeps Wants", func(p *impl.Problem) { p.Wants = wantsOf(slices.Repeat([]string{"app *"}, 20)...) }, true},
		{"one more", func(p *impl.Problem) { p.Wants = wantsOf(slices.Repeat([]string{"app *"}, 21)...) }, false},
		{"no Wants", func(p *impl.Problem) { p.Wants = nil }, true},
		{"a Want of no name", func(p *impl.Problem) { p.Wants[1].Name = "" }, false},
		{"a Want of what is no name", func(p *impl.Problem) { p.Wants[2].Name = "a/b" }, false},
		{"a Want of a name that is not there", func(p *impl.Problem) { p.Wants[2].Name = "nowhere" }, true},
		{"no constraint", func(p *impl.Problem) { p.Wants[0].Want = "" }, false},
		{"a constraint that is none", func(p *impl.Problem) { p.Wants[2].Want = "^2 *" }, false},
		{"Wants out of order", func(p *impl.Problem) { slices.Reverse(p.Wants) }, true},
		{"no Flags", func(p *impl.Problem) { p.Flags = nil }, true},
		{"a flag that is no name", func(p *impl.Problem) { p.Flags[2] = "-/" }, false},
		{"MaxMany flags", func(p *impl.Problem) { p.Flags = numbers("f%04d", 2000) }, true},
		{"one flag more", func(p *impl.Problem) { p.Flags = numbers("f%04d", 2001) }, false},
		{"no Lock", func(p *impl.Problem) { p.Lock = nil }, true},
		{"a Lock out of order", func(p *impl.Problem) { p.Lock[0], p.Lock[1] = p.Lock[1], p.Lock[0] }, false},
		{"a Lock out of order at its end", func(p *impl.Problem) { p.Lock[2], p.Lock[1] = p.Lock[1], p.Lock[2] }, false},
		{"a Lock with a name twice", func(p *impl.Problem) { p.Lock[1].Name = "app" }, false},
		{"a Lock with one pick twice", func(p *impl.Problem) { p.Lock[1] = p.Lock[0] }, false},
		{"a Lock of no name", func(p *impl.Problem) { p.Lock[0].Name = "" }, false},
		{"a Lock of what is no name", func(p *impl.Problem) { p.Lock[0].Name = "a b" }, false},
		{"a Lock of no version", func(p *impl.Problem) { p.Lock[2].Version = "" }, false},
		{"a Lock of what is no version", func(p *impl.Problem) { p.Lock[2].Version = "v1" }, false},
		{"a long Lock", func(p *impl.Problem) {
			p.Lock = nil
			for _, name := range numbers("n%04d", 3000) {
				p.Lock = append(p.Lock, impl.Pick{Name: name, Version: "1"})
			}
		}, true},
	} {
		p := whole()
		row.change(&p)
		if impl.ProblemOk(p) != row.want {
			t.Errorf("%s: it can be: %v", row.what, !row.want)
		}
		if got := impl.Solve(p); (got.Code == impl.SolveArgs) == row.want || !row.want && len(got.Picks)+len(got.Why) > 0 {
			t.Errorf("%s: solved by %v", row.what, got)
		}
		if got := impl.Upgrade(p, []string{"app", "lib", "nowhere"}); (got.Code == impl.SolveArgs) == row.want || !row.want && len(got.Picks)+len(got.Why) > 0 {
			t.Errorf("%s: upgraded by %v", row.what, got)
		}
		if !row.want && (impl.Right(p, nil) || impl.Right(p, picksOf("app 2, lib 2.1, zip 3")) || impl.Better(p, nil, picksOf("lib 1.5")) || impl.Better(p, picksOf("lib 2.1"), picksOf("lib 1.5"))) {
			t.Errorf("%s: it has right or better choices", row.what)
		}
	}
}

func TestRight(t *testing.T) {
	one := func(recipes ...impl.Recipe) []impl.Recipe { return recipes }
	for _, row := range []struct {
		what  string
		ix    []impl.Recipe
		wants string
		flags string
		picks string
		want  bool
	}{
		{"nothing is wanted", smallIndex(), "", "", "", true},
		{"nothing is wanted, no index", nil, "", "", "", true},
		{"what is wanted", one(recipeOf("a 1")), "a *", "", "a 1", true},
		{"a Want that is not picked", one(recipeOf("a 1")), "a *", "", "", false},
		{"a Want of what is not there", one(recipeOf("a 1")), "b *", "", "", false},
		{"a Want that does not match", one(recipeOf("a 2"), recipeOf("a 1")), "a ^2", "", "a 1", false},
		{"a Want that matches", one(recipeOf("a 2"), recipeOf("a 1")), "a ^2", "", "a 2", true},
		{"two Wants of a name, both met", one(recipeOf("a 2"), recipeOf("a 1")), "a >=1;a <2", "", "a 1", true},
		{"two Wants of a name, one met", one(recipeOf("a 2"), recipeOf("a 1")), "a >=1;a <2", "", "a 2", false},
		{"a When that holds", one(onlyWhen(recipeOf("a 1"), "x&!y")), "a *", "x", "a 1", true},
		{"a When that does not", one(onlyWhen(recipeOf("a 1"), "x&!y")), "a *", "x y", "a 1", false},
		{"a When with what grows alone", one(onlyWhen(featuring(recipeOf("a 1"), "x:y"), "y")), "a *", "x", "a 1", false},
		{"a When of what is needed that does not hold", one(recipeOf("a 1", "b *"), onlyWhen(recipeOf("b 1"), "x")), "a *", "", "a 1, b 1", false},
		{"a need that is met", one(recipeOf("a 1", "b ^1"), recipeOf("b 1")), "a *", "", "a 1, b 1", true},
		{"a need that is not picked", one(recipeOf("a 1", "b ^1"), recipeOf("b 1")), "a *", "", "a 1", false},
		{"a need that does not match", one(recipeOf("a 1", "b ^1"), recipeOf("b 2"), recipeOf("b 1")), "a *", "", "a 1, b 2", false},
		{"a need of what is not there", one(recipeOf("a 1", "b ^1")), "a *", "", "a 1", false},
		{"a need behind a need", one(recipeOf("a 1", "b *"), recipeOf("b 1", "c *"), recipeOf("c 1")), "a *", "", "a 1, b 1", false},
		{"a need behind a need, met", one(recipeOf("a 1", "b *"), recipeOf("b 1", "c *"), recipeOf("c 1")), "a *", "", "a 1, b 1, c 1", true},
		{"a need of one ahead", one(recipeOf("a 2"), recipeOf("a 1"), recipeOf("b 1", "a <2")), "b *", "", "a 2, b 1", false},
		{"a need of one ahead, met", one(recipeOf("a 2"), recipeOf("a 1"), recipeOf("b 1", "a <2")), "b *", "", "a 1, b 1", true},
		{"a need that is not active", one(recipeOf("a 1", "b ^1 if x"), recipeOf("b 1")), "a *", "", "a 1", true},
		{"a need that is active by a flag", one(recipeOf("a 1", "b ^1 if x"), recipeOf("b 1")), "a *", "x", "a 1", false},
		{"a need that is active by what grows", one(featuring(recipeOf("a 1", "b ^1 if x"), "y:x"), recipeOf("b 1")), "a *", "y", "a 1", false},
		{"a need that grows elsewhere", one(recipeOf("a 1", "b ^1 if x"), featuring(recipeOf("b 1"), "y:x")), "a *", "y", "a 1", true},
		{"a pick of no use by what is not active", one(recipeOf("a 1", "b ^1 if x"), recipeOf("b 1")), "a *", "", "a 1, b 1", false},
		{"a need that is not active does not match", one(recipeOf("a 1", "b ^1 if x"), recipeOf("b 2")), "a *;b *", "", "a 1, b 2", true},
		{"a peer that is wanted", one(recipeOf("a 1", "@b ^1"), recipeOf("b 1")), "a *;b *", "", "a 1, b 1", true},
		{"a peer that is not picked", one(recipeOf("a 1", "@b ^1"), recipeOf("b 1")), "a *", "", "a 1", false},
		{"a peer that is of no use", one(recipeOf("a 1", "@b ^1"), recipeOf("b 1")), "a *", "", "a 1, b 1", false},
		{"a peer that does not match", one(recipeOf("a 1", "@b ^1"), recipeOf("b 2")), "a *;b *", "", "a 1, b 2", false},
		{"a peer that is needed by another", one(recipeOf("a 1", "@b ^1", "c *"), recipeOf("b 1"), recipeOf("c 1", "b *")), "a *", "", "a 1, b 1, c 1", true},
		{"a peer that is not active", one(recipeOf("a 1", "@b ^1 if x"), recipeOf("b 1")), "a *", "", "a 1", true},
		{"a peer of what is not there", one(recipeOf("a 1", "@b ^1")), "a *", "", "a 1", false},
		{"an optional one that is not picked", one(recipeOf("a 1", "?b ^1"), recipeOf("b 1")), "a *", "", "a 1", true},
		{"an optional one that is not there", one(recipeOf("a 1", "?b ^1")), "a *", "", "a 1", true},
		{"an optional one that is wanted", one(recipeOf("a 1", "?b ^1"), recipeOf("b 1")), "a *;b *", "", "a 1, b 1", true},
		{"an optional one that is of no use", one(recipeOf("a 1", "?b ^1"), recipeOf("b 1")), "a *", "", "a 1, b 1", false},
		{"an optional one that does not match", one(recipeOf("a 1", "?b ^1"), recipeOf("b 2")), "a *;b *", "", "a 1, b 2", false},
		{"an optional one that is not active", one(recipeOf("a 1", "?b ^1 if x"), recipeOf("b 2")), "a *;b *", "", "a 1, b 2", true},
		{"a pick of no use", one(recipeOf("a 1"), recipeOf("b 1")), "a *", "", "a 1, b 1", false},
		{"a pick of no use ahead", one(recipeOf("a 1"), recipeOf("b 1")), "b *", "", "a 1, b 1", false},
		{"a pick of no use that needs what is wanted", one(recipeOf("a 1"), recipeOf("b 1", "a *")), "a *", "", "a 1, b 1", false},
		{"a circle alone", one(recipeOf("a 1"), recipeOf("b 1", "c *"), recipeOf("c 1", "b *")), "a *", "", "a 1, b 1, c 1", false},
		{"a circle that is needed", one(recipeOf("a 1", "c *"), recipeOf("b 1", "c *"), recipeOf("c 1", "b *")), "a *", "", "a 1, b 1, c 1", true},
		{"a circle around what is wanted", one(recipeOf("a 1", "b *"), recipeOf("b 1", "a *")), "a *", "", "a 1, b 1", true},
		{"a circle and nothing wanted", one(recipeOf("a 1", "b *"), recipeOf("b 1", "a *")), "", "", "a 1, b 1", false},
		{"a version in other words", one(recipeOf("a 1.0")), "a *", "", "a 1-0", false},
		{"a version that is not there", one(recipeOf("a 1.0")), "a *", "", "a 1", false},
		{"a name that is not there", one(recipeOf("a 1")), "a *", "", "a 1, b 1", false},
		{"out of order", one(recipeOf("a 1"), recipeOf("b 1")), "a *;b *", "", "b 1, a 1", false},
		{"in order", one(recipeOf("a 1"), recipeOf("b 1")), "a *;b *", "", "a 1, b 1", true},
		{"one pick twice", one(recipeOf("a 1")), "a *", "", "a 1, a 1", false},
		{"two versions of a name", one(recipeOf("a 2"), recipeOf("a 1")), "a *", "", "a 2, a 1", false},
		{"an empty pick", one(recipeOf("a 1")), "a *", "", " ,a 1", false},
	} {
		p := problem(row.ix, row.wants)
		p.Flags = strings.Fields(row.flags)
		if got := impl.Right(p, picksOf(row.picks)); got != row.want || plainRight(p, picksOf(row.picks)) != row.want {
			t.Errorf("%s: %v", row.what, got)
		}
		p.Lock = picksOf("a 9, c 9")
		if got := impl.Right(p, picksOf(row.picks)); got != row.want {
			t.Errorf("%s, locked elsewhere: %v", row.what, got)
		}
	}
	many := problem(manyRecipes(200), "")
	for _, made := range many.Index[:20] {
		many.Wants = append(many.Wants, impl.Wanted{Name: made.Name, Want: "*"})
	}
	for at := 1; at < 200; at++ {
		many.Index[at-1].Deps = wantedDeps(many.Index[at].Name)
	}
	all := []impl.Pick{}
	for _, made := range many.Index {
		all = append(all, impl.Pick{Name: made.Name, Version: "1"})
	}
	if !impl.Right(many, all) || impl.Right(many, all[:199]) || impl.Right(many, all[1:]) || impl.Solve(many).Code != impl.SolveBig {
		t.Error("a choice that is greater than what is solved")
	}
}

func wantedDeps(name string) []impl.Dep { return []impl.Dep{depOf(name + " *")} }

func TestBetter(t *testing.T) {
	ix := []impl.Recipe{recipeOf("a 3"), recipeOf("a 2"), recipeOf("a 1"), recipeOf("b 2.0"), recipeOf("b 1"), recipeOf("c 1")}
	// From the best on: at each name first none, then what is locked, then the newest.
	for lock, order := range map[string]string{
		"":              "/c 1/b 2.0/b 2.0, c 1/b 1/b 1, c 1/a 3/a 3, c 1/a 3, b 2.0/a 3, b 1/a 3, b 1, c 1/a 2/a 2, c 1/a 2, b 2.0, c 1/a 2, b 1/a 1/a 1, b 1",
		"a 2, b 1":      "/c 1/b 1/b 1, c 1/b 2.0/a 2/a 2, c 1/a 2, b 1/a 2, b 2.0/a 3/a 3, b 1/a 3, b 2.0/a 1/a 1, b 1, c 1/a 1, b 2.0",
		"a 1, b 9":      "/b 2.0/b 1/a 1/a 1, b 2.0/a 1, b 1/a 3/a 2",
		"a 3, b 2-0":    "/b 2.0/b 1/a 3/a 3, b 2.0/a 3, b 1/a 2/a 1",
		"A 1, c 1, d 1": "/c 1/b 2.0/a 3/a 3, c 1/a 1, c 1",
	} {
		choices := strings.Split(order, "/")
		p := impl.Problem{Index: ix, Lock: picksOf(lock)}
		for i, one := range choices {
			for j, other := range choices {
				a, b := picksOf(one), picksOf(other)
				if got := impl.Better(p, a, b); got != (i < j) || plainBetter(p, a, b) != (i < j) {
					t.Errorf("locked %s: %q is better than %q: %v", lock, one, other, got)
				}
			}
		}
	}
	p := impl.Problem{Index: ix}
	for _, none := range []string{"a 4", "d 1", "b 2-0", "c 1, a 1", "a 3, a 3", "a 3, a 2", "b 2.0, c 2", " ", "a"} {
		if impl.Better(p, picksOf(none), picksOf("a 1")) || impl.Better(p, picksOf("a 3"), picksOf(none)) || impl.Better(p, nil, picksOf(none)) || impl.Better(p, picksOf(none), nil) || impl.Better(p, picksOf(none), picksOf(none)) {
			t.Errorf("%q is no choice, and is held against one", none)
		}
	}
}

func TestSolve(t *testing.T) {
	ix := []impl.Recipe{
		recipeOf("app 2", "lib ^2"), recipeOf("app 1", "lib ^1"), recipeOf("lib 2.1"), recipeOf("lib 2.0"), recipeOf("lib 1.5"), recipeOf("tool 1", "lib <2"),
	}
	for wants, want := range map[string]string{
		"": "", "app *": "app 2, lib 2.1", "app ^1": "app 1, lib 1.5", "app *;tool *": "app 1, lib 1.5, tool 1", "lib *": "lib 2.1", "lib <2.1": "lib 2.0", "lib *;lib <2": "lib 1.5", "tool *": "lib 1.5, tool 1", "app *;lib !=2.1": "app 2, lib 2.0", "lib =2.0;app >=1": "app 2, lib 2.0", "app *;lib <2": "app 1, lib 1.5",
	} {
		solve(problem(ix, wants)).is(t, wants, impl.SolveOk, want)
	}
	for wants, why := range map[string][]int64{
		"app =2;tool *": {0, 1}, "app >2": {0}, "app *;tool *;lib >=1;app =2": {1, 3}, "ghost *": {0}, "app *;ghost *": {1}, "ghost *;app *": {0}, "lib <2;lib >2;lib *": {0, 1}, "lib =9;lib =8": {0}, "app =2;app =1;tool *": {0, 1}, "app =9;app *;ghost *;tool *": {0},
	} {
		solve(problem(ix, wants)).is(t, wants, impl.SolveNone, "", why...)
	}
	for _, row := range []struct {
		what  string
		ix    []impl.Recipe
		wants string
		flags string
		want  string
	}{
		{"the first name decides", []impl.Recipe{recipeOf("a 2", "c <2"), recipeOf("a 1"), recipeOf("b 2", "c *"), recipeOf("c 2"), recipeOf("c 1")}, "a *;b *", "", "a 2, b 2, c 1"},
		{"none is better than the newest", []impl.Recipe{recipeOf("a 1"), recipeOf("b 2", "a *"), recipeOf("b 1")}, "b *", "", "b 1"},
		{"none is better, but a name ahead decides", []impl.Recipe{recipeOf("a 2", "b *"), recipeOf("a 1"), recipeOf("b 1")}, "a *", "", "a 2, b 1"},
		{"on another platform", []impl.Recipe{onlyWhen(recipeOf("a 2"), "x"), recipeOf("a 1")}, "a *", "", "a 1"},
		{"on this platform", []impl.Recipe{onlyWhen(recipeOf("a 2"), "x"), recipeOf("a 1")}, "a *", "x", "a 2"},
		{"by a feature", []impl.Recipe{featuring(recipeOf("a 1", "b * if y", "c * if z"), "x:y"), recipeOf("b 1"), recipeOf("c 1")}, "a *", "x", "a 1, b 1"},
		{"an optional one is left alone", []impl.Recipe{recipeOf("a 1", "?b *"), recipeOf("b 1")}, "a *", "", "a 1"},
		{"an optional one bounds", []impl.Recipe{recipeOf("a 1", "?b <2"), recipeOf("b 2"), recipeOf("b 1")}, "a *;b *", "", "a 1, b 1"},
		{"a peer bounds", []impl.Recipe{recipeOf("a 1", "@b <2"), recipeOf("b 2"), recipeOf("b 1")}, "a *;b *", "", "a 1, b 1"},
		{"a peer is needed by another", []impl.Recipe{recipeOf("a 2", "@b *"), recipeOf("a 1"), recipeOf("b 1"), recipeOf("c 2"), recipeOf("c 1", "b *")}, "a =2;c *", "", "a 2, b 1, c 1"},
		{"a need that is not there", []impl.Recipe{recipeOf("a 2", "ghost *"), recipeOf("a 1", "?ghost *")}, "a *", "", "a 1"},
		{"a circle", []impl.Recipe{recipeOf("a 1", "b *"), recipeOf("b 2", "a >1"), recipeOf("b 1", "a *")}, "b *", "", "a 1, b 1"},
		{"a long way back", []impl.Recipe{recipeOf("a 2"), recipeOf("a 1"), recipeOf("b 2"), recipeOf("b 1"), recipeOf("c 2"), recipeOf("c 1"), recipeOf("d 1", "a <2")}, "a *;b *;c *;d *", "", "a 1, b 2, c 2, d 1"},
	} {
		p := problem(row.ix, row.wants)
		p.Flags = strings.Fields(row.flags)
		solve(p).is(t, row.what, impl.SolveOk, row.want)
		if !same(plainSolve(p).Picks, picksOf(row.want)) {
			t.Errorf("%s: in plain words %v", row.what, plainSolve(p))
		}
	}
	solve(impl.Problem{}).is(t, "nothing at all", impl.SolveOk, "")
	// A peer that nothing needs or wants is of no use.
	peers := []impl.Recipe{recipeOf("a 1", "@b *"), recipeOf("b 1"), recipeOf("c 1")}
	solve(problem(peers, "a *")).is(t, "a peer alone", impl.SolveNone, "", 0)
	solve(problem(peers, "a *;b *")).is(t, "a peer that is wanted", impl.SolveOk, "a 1, b 1")
	solve(problem(peers, "a *;b *;c >1")).is(t, "a peer that is wanted, and a want that is not met", impl.SolveNone, "", 2)
	// The third Want stays since the first two go together, and the second one goes since the first can't be without it: then the first alone would do.
	peers[2].Deps = []impl.Dep{depOf("?b >1")}
	solve(problem(peers, "a *;b *;c *")).is(t, "a reason of which one could be left out", impl.SolveNone, "", 0, 2)
}

func TestSolveBig(t *testing.T) {
	row := func(names string, versions int) []impl.Recipe {
		ix := []impl.Recipe{}
		for i, name := range strings.Split(names, "") {
			for version := versions; version > 0; version-- {
				made := recipeOf(fmt.Sprint(name, " ", version))
				if i+1 < len(names) {
					made.Deps = append(made.Deps, depOf(fmt.Sprintf("?%s *", names[i+1:i+2])))
				}
				ix = append(ix, made)
			}
		}
		return ix
	}
	solve(problem(row("abcdefgh", 3), "a *")).is(t, "24 recipes of 8 names", impl.SolveOk, "a 3")
	solve(problem(row("abcdefghi", 1), "a *")).is(t, "9 names", impl.SolveBig, "")
	solve(problem(row("bcdefghi", 1), "b *")).is(t, "8 names", impl.SolveOk, "b 1")
	solve(problem(row("a", 24), "a *")).is(t, "24 versions", impl.SolveOk, "a 24")
	solve(problem(row("a", 25), "a *")).is(t, "25 versions", impl.SolveBig, "")
	solve(problem(row("abcde", 5), "a *")).is(t, "25 recipes", impl.SolveBig, "")
	solve(problem(row("abcde", 5), "b *")).is(t, "20 recipes, and others that nothing leads to", impl.SolveOk, "b 5")
	solve(problem(row("abcde", 5), "")).is(t, "nothing is wanted", impl.SolveOk, "")
	solve(problem(row("abcde", 5), "ghost *")).is(t, "what is not there leads nowhere", impl.SolveNone, "", 0)
	solve(problem(row("abcdefghi", 1), "i *;a >9")).is(t, "9 names, and none would be right", impl.SolveBig, "")
	solve(problem(row("abcdefghi", 1), "h *")).is(t, "2 names", impl.SolveOk, "h 1")
	wrong := problem(row("a", 25), "a")
	solve(wrong).is(t, "25 versions, and no problem", impl.SolveArgs, "")
	// What another flag would make of it does not count: all recipes do.
	dark := row("a", 25)
	for i := range dark {
		dark[i].When = "x"
	}
	solve(problem(dark, "a *")).is(t, "25 versions on no platform", impl.SolveBig, "")
	upgrade(problem(row("a", 25), "a *")).is(t, "25 versions, upgraded", impl.SolveBig, "")
	apart := []impl.Recipe{}
	for _, name := range strings.Split("abcdefghi", "") {
		apart = append(apart, recipeOf(name+" 1"))
	}
	solve(problem(apart, "a *;b *;c *;d *;e *;f *;g *;h *;ghost *")).is(t, "8 names and one that is not there", impl.SolveNone, "", 8)
	solve(problem(apart, "a *;b *;c *;d *;e *;f *;g *;h *;i *")).is(t, "9 names that are wanted", impl.SolveBig, "")
	solve(problem(apart, "a *;b *;c *;d *;e *;f *;g *;h *;a *;a *;b *;c *;d *;d *;d *;d *;d *;d *;d *;h *")).is(t, "20 Wants of 8 names", impl.SolveOk, "a 1, b 1, c 1, d 1, e 1, f 1, g 1, h 1")
}

// All choices have to be gone through here, once for each Want.
func TestSolveTheHardest(t *testing.T) {
	ix := []impl.Recipe{}
	for _, name := range strings.Split("abcdefgz", "") {
		for _, version := range []string{"3", "2", "1"} {
			made := recipeOf(name + " " + version)
			for _, other := range strings.Split("abcdefgz", "") {
				switch {
				case other == name:
				case name+other == "zg":
					made.Deps = append(made.Deps, depOf("@g *"))
				default:
					made.Deps = append(made.Deps, depOf("?"+other+" *"))
				}
			}
			ix = append(ix, made)
		}
	}
	solve(problem(ix, strings.Repeat("z *;", 20))).is(t, "a peer of no use", impl.SolveNone, "", 0)
}

func TestLockedStays(t *testing.T) {
	ix := []impl.Recipe{recipeOf("app 3", "lib >=2"), recipeOf("app 2", "lib ^2"), recipeOf("app 1", "lib ^1"), recipeOf("lib 2.1", "zip *"), recipeOf("lib 2.0", "zip *"), recipeOf("lib 1.5"), recipeOf("zip 3"), recipeOf("zip 2"), recipeOf("zip 1")}
	for _, row := range []struct{ wants, lock, names, want string }{
		{"app *", "", "", "app 3, lib 2.1, zip 3"},
		{"app *", "app 2, lib 2.0, zip 1", "", "app 2, lib 2.0, zip 1"},
		{"app *", "app 2, lib 2.0, zip 1", "zip", "app 2, lib 2.0, zip 3"},
		{"app *", "app 2, lib 2.0, zip 1", "lib", "app 2, lib 2.1, zip 1"},
		{"app *", "app 2, lib 2.0, zip 1", "app", "app 3, lib 2.0, zip 1"},
		{"app *", "app 2, lib 2.0, zip 1", "zip app", "app 3, lib 2.0, zip 3"},
		{"app *", "app 2, lib 2.0, zip 1", "app lib zip", "app 3, lib 2.1, zip 3"},
		{"app *", "app 2, lib 2.0, zip 1", "ghost app app", "app 3, lib 2.0, zip 1"},
		{"app *", "app 2, lib 2.0, zip 1", "a app2 APP li", "app 2, lib 2.0, zip 1"},
		{"app *", "lib 2.0", "", "app 3, lib 2.0, zip 3"},
		{"app *", "app 1", "", "app 1, lib 1.5"},
		{"app *", "app 1, lib 2.0", "", "app 1, lib 1.5"},
		{"app *", "app 1, lib 2.0", "app", "app 3, lib 2.0, zip 3"},
		{"app *", "lib 1.5", "", "app 3, lib 2.1, zip 3"},
		{"app >=2", "app 1, lib 2.0, zip 2", "", "app 3, lib 2.0, zip 2"},
		{"app *", "app 4, lib 9, zip 9", "", "app 3, lib 2.1, zip 3"},
		{"app *", "app 02, lib 2-0, zip 1.", "", "app 3, lib 2.1, zip 3"},
		{"lib *;lib <2.1", "lib 2.1", "", "lib 2.0, zip 3"},
		{"lib >=2;lib <2.1", "lib 2.1, zip 1", "", "lib 2.0, zip 1"},
		{"zip *", "app 1, zip 1", "", "zip 1"},
	} {
		p := problem(ix, row.wants)
		p.Lock = picksOf(row.lock)
		upgrade(p, strings.Fields(row.names)...).is(t, fmt.Sprint(row), impl.SolveOk, row.want)
		if row.names == "" {
			solve(p).is(t, fmt.Sprint(row), impl.SolveOk, row.want)
		}
		p.Lock = picksOf(row.want)
		solve(p).is(t, fmt.Sprint(row, " locked"), impl.SolveOk, row.want)
	}
	p := problem(ix, "app *")
	p.Lock = picksOf("app 2, lib 2.0, zip 1")
	many := append(numbers("n%04d", impl.MaxMany-1), "zip")
	upgrade(p, many...).is(t, "MaxMany names", impl.SolveOk, "app 2, lib 2.0, zip 3")
	upgrade(p, append(many, "app")...).is(t, "MaxMany names and one more", impl.SolveArgs, "")
	upgrade(p, slices.Repeat([]string{"zip"}, impl.MaxMany+1)...).is(t, "one name too often", impl.SolveArgs, "")
	upgrade(p, "", "a b", ".x", "zip").is(t, "what is no name", impl.SolveOk, "app 2, lib 2.0, zip 3")
	p.Wants = wantsOf("app >3")
	upgrade(p, "app").is(t, "none is right", impl.SolveNone, "", 0)
}

type solveMaker struct{ *rand.Rand }

func (m solveMaker) one(texts ...string) string { return texts[m.Intn(len(texts))] }

func (m solveMaker) recipe(name, version, names string, peers bool) impl.Recipe {
	made := recipeOf(name + " " + version)
	made.When = m.one("true", "true", "true", "true", "true", "true", "true", "true", "true", "x", "!x", "x|y", "z")
	for _, other := range strings.Split(names, "") {
		if other == name || m.Intn(3) > 0 {
			continue
		}
		dep := impl.Dep{Name: other, Want: m.one("*", "*", "*", "^1", ">=2", "<2", "<3", "!=2", "=1||=3", "=2", "=9"), When: m.one("true", "true", "true", "x", "!y", "z", "w"), Kind: int64([]int{0, 0, 0, 1, 2}[m.Intn(5)])}
		if dep.Kind == impl.DepPeer && !peers {
			dep.Kind = impl.DepOptional
		}
		made.Deps = append(made.Deps, dep)
	}
	if m.Intn(3) == 0 {
		made = featuring(made, m.one("x:w", "x:z", "y:x", "w:z"), m.one("y:z", "z:w", "z:y"))
		if made.Features[0].Name == made.Features[1].Name {
			made.Features = made.Features[:1]
		}
	}
	slices.SortFunc(made.Features, func(a, b impl.Feature) int { return strings.Compare(a.Name, b.Name) })
	return made
}

func (m solveMaker) problem(names string, versions int, peers bool) impl.Problem {
	p := impl.Problem{}
	for _, name := range strings.Split(names, "") {
		count := 1 + m.Intn(versions)
		if m.Intn(12) == 0 {
			count = 0
		}
		for version := count; version > 0; version-- {
			p.Index = append(p.Index, m.recipe(name, fmt.Sprint(version), names, peers))
		}
		if m.Intn(2) == 0 {
			p.Lock = append(p.Lock, impl.Pick{Name: name, Version: m.one("1", "2", "3", "1.0")})
		}
	}
	for range m.Intn(5) {
		p.Wants = append(p.Wants, impl.Wanted{Name: m.one(strings.Split(names, "")...), Want: m.one("*", "*", "*", "^1", ">=2", "<3", "!=1", "=2")})
	}
	for _, flag := range strings.Fields("x y z") {
		if m.Intn(2) == 0 {
			p.Flags = append(p.Flags, flag)
		}
	}
	return p
}

func sameSolution(a, b impl.Solution) bool {
	return a.Code == b.Code && slices.Equal(a.Picks, b.Picks) && slices.Equal(a.Why, b.Why)
}

func TestSolveAgainstAllChoices(t *testing.T) {
	m := solveMaker{rand.New(rand.NewSource(9))}
	codes, sizes, reasons := map[int64]int{}, map[int]int{}, map[int]int{}
	for round := range 20000 {
		p := m.problem("abcde"[:2+round%4], 1+round%3, round%2 == 0)
		if !impl.ProblemOk(p) {
			t.Fatalf("%+v can't be", p)
		}
		got, want := impl.Solve(p), plainSolve(p)
		codes[want.Code]++
		sizes[len(want.Picks)]++
		reasons[len(want.Why)]++
		if !sameSolution(got, want) {
			t.Fatalf("%+v is solved by %+v, not by %+v", p, got, want)
		}
		names := strings.Split("abcde", "")[m.Intn(3):][:m.Intn(3)]
		free := p
		free.Lock = slices.DeleteFunc(slices.Clone(p.Lock), func(pick impl.Pick) bool { return slices.Contains(names, pick.Name) })
		if upgraded := impl.Upgrade(p, names); !sameSolution(upgraded, plainSolve(free)) || !sameSolution(upgraded, impl.Solve(free)) {
			t.Fatalf("%+v is upgraded for %q by %+v", p, names, upgraded)
		}
		if got.Code == impl.SolveNone {
			continue
		}
		locked := p
		locked.Lock = got.Picks
		if again := impl.Solve(locked); !sameSolution(again, got) {
			t.Fatalf("%+v: %v is locked, and becomes %v", p, got, again)
		}
	}
	if codes[impl.SolveOk] < 2000 || codes[impl.SolveNone] < 1500 || sizes[2] < 1000 || sizes[3] < 300 || sizes[4] < 50 || reasons[1] < 1000 || reasons[2] < 200 || reasons[3] < 1 {
		t.Error(codes, sizes, reasons)
	}
}

func TestRightAndBetterAgainstPlainWords(t *testing.T) {
	m := solveMaker{rand.New(rand.NewSource(10))}
	rights, betters := map[bool]int{}, map[bool]int{}
	for round := range 1500 {
		p := m.problem("abcd"[:2+round%3], 2, round%2 == 0)
		solution := impl.Solve(p)
		choices := [][]impl.Pick{}
		everyChoice(p.Index, func(picks []impl.Pick) { choices = append(choices, picks) })
		for _, picks := range choices {
			right := plainRight(p, picks)
			rights[right]++
			if impl.Right(p, picks) != right {
				t.Fatalf("%+v: %v is right: %v", p, picks, !right)
			}
			if right && (solution.Code != impl.SolveOk || impl.Better(p, picks, solution.Picks)) {
				t.Fatalf("%+v is solved by %v, and %v is better", p, solution, picks)
			}
			other := choices[m.Intn(len(choices))]
			better := plainBetter(p, picks, other)
			betters[better]++
			if impl.Better(p, picks, other) != better || better && impl.Better(p, other, picks) || impl.Better(p, picks, picks) {
				t.Fatalf("%+v: %v is better than %v: %v", p, picks, other, !better)
			}
		}
	}
	if rights[true] < 800 || rights[false] < 5000 || betters[true] < 5000 || betters[false] < 5000 {
		t.Error(rights, betters)
	}
}

// Without peers nothing can be left out of a reason; with them or without, it is one.
func TestReasonsAreReasons(t *testing.T) {
	m := solveMaker{rand.New(rand.NewSource(12))}
	sizes := map[int]int{}
	for round := range 16000 {
		p := m.problem("abcd", 2, round%2 == 0)
		p.Wants = append(p.Wants, impl.Wanted{Name: "a", Want: "*"}, impl.Wanted{Name: "b", Want: "<2"})
		s := impl.Solve(p)
		if s.Code != impl.SolveNone {
			continue
		}
		sizes[len(s.Why)]++
		if impl.Solve(wantingOnly(p, s.Why)).Code != impl.SolveNone || len(s.Why) == 0 {
			t.Fatalf("%+v: %v is no reason", p, s.Why)
		}
		for at := range s.Why {
			fewer := slices.Delete(slices.Clone(s.Why), at, at+1)
			if round%2 == 1 && impl.Solve(wantingOnly(p, fewer)).Code != impl.SolveOk {
				t.Fatalf("%+v: of %v number %d can be left out", p, s.Why, at)
			}
		}
	}
	if sizes[1] < 500 || sizes[2] < 100 || sizes[3] < 3 {
		t.Error(sizes)
	}
}

// Where no recipe needs another, just what is upgraded moves.
func TestUpgradedAloneMoves(t *testing.T) {
	m := solveMaker{rand.New(rand.NewSource(13))}
	names := strings.Split("abcdefgh", "")
	for range 500 {
		p := impl.Problem{}
		moving, want := []string{}, []impl.Pick{}
		for _, name := range names {
			p.Index = append(p.Index, recipeOf(name+" 3"), recipeOf(name+" 2"), recipeOf(name+" 1"))
			p.Wants = append(p.Wants, impl.Wanted{Name: name, Want: "*"})
			pick := impl.Pick{Name: name, Version: m.one("1", "2", "3")}
			p.Lock = append(p.Lock, pick)
			if m.Intn(3) == 0 {
				moving = append(moving, name)
				pick.Version = "3"
			}
			want = append(want, pick)
		}
		if got := impl.Upgrade(p, moving); got.Code != impl.SolveOk || !slices.Equal(got.Picks, want) {
			t.Fatalf("%v is upgraded for %q by %v", p.Lock, moving, got)
		}
		if got := impl.Upgrade(p, nil); !slices.Equal(got.Picks, p.Lock) {
			t.Fatalf("%v is upgraded for no name by %v", p.Lock, got)
		}
	}
}

var plainLockLines = regexp.MustCompile(`\A(?:` + plainNamePattern + ` ` + plainVersionPattern + `\n)*\z`)

func plainReadLock(s string) ([]impl.Pick, bool) {
	if !plainLockLines.MatchString(s) {
		return nil, false
	}
	picks, rows := []impl.Pick{}, [][]string{}
	for _, line := range strings.SplitAfter(s, "\n") {
		if line == "" {
			continue
		}
		words := strings.Fields(line)
		picks = append(picks, impl.Pick{Name: words[0], Version: words[1]})
		rows = append(rows, words[:1])
		if !plainVersionOk(words[1]) {
			return nil, false
		}
	}
	if !plainAscending(rows) {
		return nil, false
	}
	return picks, true
}

func lockReads(t *testing.T, s string) bool {
	t.Helper()
	want, isLock := plainReadLock(s)
	got, ok := impl.ReadLock(s)
	if ok != isLock || !slices.Equal(got, want) {
		t.Errorf("%q is read as %v, %v", s, got, ok)
	}
	if isLock && impl.LockText(want) != s {
		t.Errorf("%v is shown as %q", want, impl.LockText(want))
	}
	return isLock
}

func TestLocks(t *testing.T) {
	for _, row := range [][2]string{
		{"", ""}, {"app 2", "app 2\n"}, {"app 2, lib 2.1", "app 2\nlib 2.1\n"}, {"A 1, B 2-rc1, a+b 1.0, a-b 0", "A 1\nB 2-rc1\na+b 1.0\na-b 0\n"}, {"a-b 1, a+b 1", ""}, {"+ 1, a-b 0a, a.b 1-", "+ 1\na-b 0a\na.b 1-\n"}, {"a 1, a 1", ""}, {"b 1, a 1", ""}, {"a 2, a 1", ""}, {"a ", ""}, {"a 1, b v", ""}, {".a 1", ""}, {"a/b 1", ""}, {"a 1 , b 1", ""}, {" a", ""},
		{strings.Repeat("n", 60) + " " + strings.Repeat("1.", 15), strings.Repeat("n", 60) + " " + strings.Repeat("1.", 15) + "\n"}, {strings.Repeat("n", 61) + " 1", ""}, {"a " + strings.Repeat("1.", 15) + "1", ""}, {"a 1234567890123456", ""}, {"a 123456789012345", "a 123456789012345\n"},
	} {
		if got := impl.LockText(picksOf(row[0])); got != row[1] {
			t.Errorf("%s is shown as %q", row[0], got)
		}
		if picks, ok := impl.ReadLock(row[1]); !ok || row[1] != "" && !slices.Equal(picks, picksOf(row[0])) {
			t.Errorf("%q is read as %v, %v", row[1], picks, ok)
		}
	}
	if got := impl.LockText([]impl.Pick{{Name: "a", Version: "1\nb 1"}}); got != "" {
		t.Errorf("a version with a newline is shown as %q", got)
	}
	if got := impl.LockText([]impl.Pick{{Name: "a 1\nb", Version: "1"}}); got != "" {
		t.Errorf("a name with a newline is shown as %q", got)
	}
	for _, s := range []string{"app 2", "app 2\n\n", "\napp 2\n", "app  2\n", " app 2\n", "app 2 \n", "app\t2\n", "app 2\r\n", "app 2\nlib 2.1", "app\n", "app \n", " 2\n", "\n", " ", "lib 1\napp 1\n", "app 1\napp 1\n", "app 1\napp 2\n", "app v\n", "app 1 2\n", "app 2\n# note\n", "app 2\x00\n", "app 2\n\x00", "a 1\nb 1\na 1\n", "a é\n"} {
		if lockReads(t, s) {
			t.Errorf("%q is a lock in plain words", s)
		}
	}
	long := strings.Builder{}
	for _, name := range numbers("n%05d", 5000) {
		long.WriteString(name + " 1.2.3\n")
	}
	if !lockReads(t, long.String()) || lockReads(t, long.String()+"a 1\n") || lockReads(t, long.String()+"z") {
		t.Error("a long one")
	}
}

func TestAllShortLocks(t *testing.T) {
	seen := map[bool]int{}
	everyText("a1. \n", 8, func(s string) { seen[lockReads(t, s)]++ })
	if seen[true] < 100 || seen[false] < 1000 {
		t.Error(seen)
	}
}

// Locks with one byte put in, taken out or made another one.
func TestLocksThatAreSpoiled(t *testing.T) {
	whole := "a 1\nb.c 1.0-rc1\nlib+ 2\n"
	seen := map[bool]int{}
	for at := range len(whole) {
		seen[lockReads(t, whole[:at])]++
		seen[lockReads(t, whole[:at]+whole[at+1:])]++
		for b := range 256 {
			seen[lockReads(t, whole[:at]+string([]byte{byte(b)})+whole[at:])]++
			seen[lockReads(t, whole[:at]+string([]byte{byte(b)})+whole[at+1:])]++
		}
	}
	if seen[true] < 100 || seen[false] < 1000 {
		t.Error(seen)
	}
}

func TestSolveArgumentsStay(t *testing.T) {
	m := solveMaker{rand.New(rand.NewSource(14))}
	for round := range 300 {
		p, stays := roomyAll(m.problem("abcd", 2, true))
		if round%10 == 0 {
			p.Index = append(p.Index, impl.Recipe{})
			p, stays = roomyAll(p)
		}
		names, namesStay := roomy([]string{"c", "a", "c"}, "room")
		some, someStay := roomy(picksOf("a 2, b 1, c 1"), impl.Pick{Name: "room"})
		other, otherStay := roomy(picksOf("b 1, a 1"), impl.Pick{Name: "room"})
		impl.ProblemOk(p)
		impl.Solve(p)
		impl.Right(p, some)
		impl.Right(p, other)
		impl.Better(p, some, other)
		impl.Better(p, some, p.Lock)
		impl.Upgrade(p, names)
		impl.LockText(some)
		impl.LockText(other)
		if !stays() || !namesStay() || !someStay() || !otherStay() {
			t.Fatalf("written into %+v", p)
		}
	}
}

func TestSolveAnswersAreNewMemory(t *testing.T) {
	p := problem(smallIndex(), "app *;zip *;lib *")
	p.Lock = picksOf("app 1.9, zip 3")
	p.Flags = []string{"linux"}
	none := p
	none.Wants = wantsOf("zip *", "app >9", "lib =2.1")
	text := "app 1.9\nzip 3\n"
	answers := func() []any {
		picks, _ := impl.ReadLock(text)
		return []any{impl.Solve(p), impl.Upgrade(p, []string{"app"}), impl.Solve(none), picks}
	}
	first, second := answers(), answers()
	for i := range first {
		if !isNew(first[i], p, none, text) || !isNew(first[i], second[i]) || !same(first[i], second[i]) {
			t.Errorf("answer %d shares memory or is another one: %v, %v", i, first[i], second[i])
		}
	}
	if s := first[0].(impl.Solution); shownPicks(s.Picks) != "app 1.9, lib 2.1, zip 3" {
		t.Error(s)
	}
	if s := first[2].(impl.Solution); !slices.Equal(s.Why, []int64{1}) {
		t.Error(s)
	}
}
