package tests

import (
	"fmt"
	"math/rand"
	"slices"
	"strings"
	"testing"

	"loop.example/g00023/impl"
)

// recipeOf makes "app 1.2" with Deps such as "lib ^1", "?doc * if html" (optional) and "@ui *" (a peer).
func recipeOf(head string, deps ...string) impl.Recipe {
	name, version, _ := strings.Cut(head, " ")
	made := impl.Recipe{Name: name, Version: version, When: "true"}
	for _, dep := range deps {
		made.Deps = append(made.Deps, depOf(dep))
	}
	return made
}

func depOf(s string) impl.Dep {
	s, when, isSaid := strings.Cut(s, " if ")
	if !isSaid {
		when = "true"
	}
	kind := int64(strings.Index("?@", s[:1]) + 1)
	if kind > 0 {
		s = s[1:]
	}
	name, want, _ := strings.Cut(s, " ")
	return impl.Dep{Name: name, Want: want, When: when, Kind: kind}
}

// featuring gives it Features such as "tls:crypto sockets".
func featuring(made impl.Recipe, features ...string) impl.Recipe {
	for _, feature := range features {
		name, needs, _ := strings.Cut(feature, ":")
		made.Features = append(made.Features, impl.Feature{Name: name, Needs: strings.Fields(needs)})
	}
	return made
}

func onlyWhen(made impl.Recipe, when string) impl.Recipe {
	made.When = when
	return made
}

func wholeRecipe() impl.Recipe {
	made := recipeOf("app 1.2-rc1", "?doc * if html&!slim", "lib >=1 <2 || =3 if linux|darwin", "@ui ~2.1", "zip !=4")
	made.When, made.Source = "linux | darwin & !(musl)", "a\x00 b\n"
	return featuring(made, "full:html tls", "html:", "tls:crypto tls")
}

func plainRecipeOk(made impl.Recipe) bool {
	_, isCond := impl.ReadCond(made.When)
	names := [][]string{}
	for _, dep := range made.Deps {
		_, isDepCond := impl.ReadCond(dep.When)
		_, isWant := plainConstraint(dep.Want)
		if !plainNames60.MatchString(dep.Name) || dep.Name == made.Name || !isDepCond || !isWant || !slices.Contains([]int64{0, 1, 2}, dep.Kind) {
			return false
		}
		names = append(names, []string{dep.Name})
	}
	features := [][]string{}
	for _, feature := range made.Features {
		needs := [][]string{}
		for _, need := range feature.Needs {
			if !plainNames60.MatchString(need) {
				return false
			}
			needs = append(needs, []string{need})
		}
		if !plainNames60.MatchString(feature.Name) || !plainAscending(needs) {
			return false
		}
		features = append(features, []string{feature.Name})
	}
	return plainNames60.MatchString(made.Name) && plainVersionOk(made.Version) && isCond && len(made.Source) <= 4000 &&
		len(names) <= 20 && plainAscending(names) && len(features) <= 20 && plainAscending(features)
}

// recipeCan holds all that asks whether a recipe can be against what is wanted.
func recipeCan(t *testing.T, what string, made impl.Recipe, want bool) {
	t.Helper()
	if impl.RecipeOk(made) != want || plainRecipeOk(made) != want {
		t.Errorf("%s: RecipeOk is %v, in plain words %v, wanted %v", what, impl.RecipeOk(made), plainRecipeOk(made), want)
	}
	if impl.IndexOk([]impl.Recipe{made}) != want {
		t.Errorf("%s: an index of it alone can be: %v", what, !want)
	}
	if got := impl.Grow(made, []string{"x"}); want && !slices.Contains(got, "x") || !want && len(got) > 0 {
		t.Errorf("%s: grows into %q", what, got)
	}
	deps := impl.Active(made, strings.Fields("darwin html linux x"))
	if !want && len(deps) > 0 || want && len(deps) != len(made.Deps) {
		t.Errorf("%s: active are %v", what, deps)
	}
	if _, ok := impl.Add(nil, made); ok != want {
		t.Errorf("%s: can be added: %v", what, ok)
	}
}

func numbers(pattern string, n int) []string {
	list := []string{}
	for i := range n {
		list = append(list, fmt.Sprintf(pattern, i))
	}
	return list
}

func TestRecipeOk(t *testing.T) {
	recipeCan(t, "a whole one", wholeRecipe(), true)
	recipeCan(t, "a small one", recipeOf("a 1"), true)
	recipeCan(t, "the zero value", impl.Recipe{}, false)
	for _, row := range []struct {
		what   string
		change func(made *impl.Recipe)
		want   bool
	}{
		{"no name", func(made *impl.Recipe) { made.Name = "" }, false},
		{"a name of 60", func(made *impl.Recipe) { made.Name = strings.Repeat("n", 60) }, true},
		{"a name of 61", func(made *impl.Recipe) { made.Name = strings.Repeat("n", 61) }, false},
		{"a name with a dot first", func(made *impl.Recipe) { made.Name = ".app" }, false},
		{"a name with a blank", func(made *impl.Recipe) { made.Name = "a b" }, false},
		{"no version", func(made *impl.Recipe) { made.Version = "" }, false},
		{"a version with a letter first", func(made *impl.Recipe) { made.Version = "v1" }, false},
		{"a version of 30", func(made *impl.Recipe) { made.Version = strings.Repeat("1.", 15) }, true},
		{"a version of 31", func(made *impl.Recipe) { made.Version = strings.Repeat("1.", 15) + "1" }, false},
		{"no When", func(made *impl.Recipe) { made.When = "" }, false},
		{"a When that is none", func(made *impl.Recipe) { made.When = "linux &" }, false},
		{"a When that is false", func(made *impl.Recipe) { made.When = "false" }, true},
		{"a When of MaxText", func(made *impl.Recipe) { made.When = "x" + strings.Repeat(" ", 3999) }, true},
		{"a When of one more", func(made *impl.Recipe) { made.When = "x" + strings.Repeat(" ", 4000) }, false},
		{"a When of 300 nodes", func(made *impl.Recipe) { made.When = "x" + strings.Repeat("|x", 298) }, true},
		{"a When of 301 nodes", func(made *impl.Recipe) { made.When = "x" + strings.Repeat("|x", 299) }, false},
		{"no Source", func(made *impl.Recipe) { made.Source = "" }, true},
		{"a Source of MaxText", func(made *impl.Recipe) { made.Source = strings.Repeat("\xff", 4000) }, true},
		{"a Source of one more", func(made *impl.Recipe) { made.Source = strings.Repeat("\xff", 4001) }, false},
		{"no Deps", func(made *impl.Recipe) { made.Deps = nil }, true},
		{"no Features", func(made *impl.Recipe) { made.Features = nil; made.Deps = nil }, true},
		{"a Dep of no name", func(made *impl.Recipe) { made.Deps[0].Name = "" }, false},
		{"a Dep of what is no name", func(made *impl.Recipe) { made.Deps[0].Name = "d/c" }, false},
		{"a Dep of its own name", func(made *impl.Recipe) { made.Deps[0].Name = "app" }, false},
		{"a Dep of nearly its own name", func(made *impl.Recipe) { made.Deps[0].Name = "app2" }, true},
		{"a Dep of its name's beginning", func(made *impl.Recipe) { made.Deps[0].Name = "ap" }, true},
		{"a Dep of no Want", func(made *impl.Recipe) { made.Deps[1].Want = "" }, false},
		{"a Want that is none", func(made *impl.Recipe) { made.Deps[1].Want = ">= 1" }, false},
		{"a Want that is a version", func(made *impl.Recipe) { made.Deps[1].Want = "1" }, false},
		{"a Want of 200", func(made *impl.Recipe) { made.Deps[1].Want = "=1" + strings.Repeat(" ", 198) }, true},
		{"a Want of 201", func(made *impl.Recipe) { made.Deps[1].Want = "=1" + strings.Repeat(" ", 199) }, false},
		{"a Dep of no When", func(made *impl.Recipe) { made.Deps[3].When = "" }, false},
		{"a Dep's When that is none", func(made *impl.Recipe) { made.Deps[3].When = "a b" }, false},
		{"a Dep's When in brackets", func(made *impl.Recipe) { made.Deps[3].When = " ( ( linux ) ) " }, true},
		{"a Kind below", func(made *impl.Recipe) { made.Deps[3].Kind = -1 }, false},
		{"a Kind above", func(made *impl.Recipe) { made.Deps[3].Kind = 3 }, false},
		{"a Kind far above", func(made *impl.Recipe) { made.Deps[3].Kind = 1 << 62 }, false},
		{"Deps out of order", func(made *impl.Recipe) { made.Deps[0], made.Deps[1] = made.Deps[1], made.Deps[0] }, false},
		{"the last Deps out of order", func(made *impl.Recipe) { made.Deps[2], made.Deps[3] = made.Deps[3], made.Deps[2] }, false},
		{"one Dep twice", func(made *impl.Recipe) { made.Deps[1] = made.Deps[0] }, false},
		{"two Deps of one name", func(made *impl.Recipe) { made.Deps[1].Name = "doc" }, false},
		{"a Feature of no name", func(made *impl.Recipe) { made.Features[0].Name = "" }, false},
		{"a Feature of what is no name", func(made *impl.Recipe) { made.Features[0].Name = "a b" }, false},
		{"Features out of order", func(made *impl.Recipe) { slices.Reverse(made.Features) }, false},
		{"the last Features out of order", func(made *impl.Recipe) {
			made.Features[1], made.Features[2] = made.Features[2], made.Features[1]
		}, false},
		{"one Feature twice", func(made *impl.Recipe) { made.Features[1] = made.Features[0] }, false},
		{"a Need that is no name", func(made *impl.Recipe) { made.Features[0].Needs[1] = "~" }, false},
		{"a Need that is empty", func(made *impl.Recipe) { made.Features[0].Needs[0] = "" }, false},
		{"a Need of 61", func(made *impl.Recipe) { made.Features[1].Needs = []string{strings.Repeat("n", 61)} }, false},
		{"Needs out of order", func(made *impl.Recipe) { made.Features[0].Needs = []string{"b", "a"} }, false},
		{"one Need twice", func(made *impl.Recipe) { made.Features[0].Needs = []string{"a", "a"} }, false},
		{"more Needs than Deps may be", func(made *impl.Recipe) { made.Features[1].Needs = numbers("n%04d", 21) }, true},
		{"more Needs than MaxMany", func(made *impl.Recipe) { made.Features[1].Needs = numbers("n%04d", 2001) }, true},
		{"a Feature of its own name", func(made *impl.Recipe) { made.Features[0] = impl.Feature{Name: "app", Needs: []string{"app"}} }, true},
	} {
		made := wholeRecipe()
		row.change(&made)
		recipeCan(t, row.what, made, row.want)
	}
}

func TestRecipesWithMaxDeps(t *testing.T) {
	for n, want := range map[int]bool{impl.MaxDeps - 1: true, impl.MaxDeps: true, impl.MaxDeps + 1: false, 40: false} {
		made := recipeOf("app 1")
		for _, name := range numbers("d%02d", n) {
			made.Deps = append(made.Deps, depOf(name+" *"))
		}
		recipeCan(t, fmt.Sprint(n, " Deps"), made, want)
		made = recipeOf("app 1")
		for _, name := range numbers("f%02d", n) {
			made.Features = append(made.Features, impl.Feature{Name: name})
		}
		recipeCan(t, fmt.Sprint(n, " Features"), made, want)
	}
}

// One part of a recipe at a time is made another one by chance.
func TestRecipesByChance(t *testing.T) {
	m := rand.New(rand.NewSource(8))
	pick := func(texts ...string) string { return texts[m.Intn(len(texts))] }
	seen := map[bool]int{}
	for range 40000 {
		made := impl.Recipe{Name: pick("a", "b", "b", "a+", ".a", ""), Version: pick("1", "1.0", "2-rc1", "3", "4", "x"), When: pick("true", "a", "a&b", "!a", "a|!b", "a!")}
		for range m.Intn(4) {
			made.Deps = append(made.Deps, impl.Dep{Name: pick("c", "d", "e", "f", "g", "a"), Want: pick("*", "^1", "=2||=3", ">1 <2", "~1", "^"), When: pick("true", "x", "a|b", "false", "!a", ""), Kind: int64(m.Intn(3))})
		}
		for range m.Intn(3) {
			made.Features = append(made.Features, impl.Feature{Name: pick("x", "y", "z", "a", "/"), Needs: strings.Fields(pick("", "a", "a b", "b a", "b", "a a", "c"))})
		}
		can := plainRecipeOk(made)
		seen[can]++
		if impl.RecipeOk(made) != can {
			t.Fatalf("%+v can be: %v", made, !can)
		}
	}
	if seen[true] < 2000 || seen[false] < 2000 {
		t.Error(seen)
	}
}

func smallIndex() []impl.Recipe {
	return []impl.Recipe{
		onlyWhen(recipeOf("app 2", "lib ^2", "?log *"), "linux"), recipeOf("app 1.10", "lib ^1"), recipeOf("app 1.9"), recipeOf("app 1.9-rc1"),
		recipeOf("lib 2.1", "zip *"), onlyWhen(recipeOf("lib 2.0"), "!linux"), recipeOf("lib 1.5"),
		recipeOf("log 1", "@app * if never"), recipeOf("tool 7", "ghost *"), recipeOf("zip 3"),
	}
}

func namesAndVersions(ix []impl.Recipe) string {
	words := []string{}
	for _, made := range ix {
		words = append(words, made.Name+" "+made.Version)
	}
	return strings.Join(words, ", ")
}

func TestIndexOk(t *testing.T) {
	for _, row := range []struct {
		heads string
		want  bool
	}{
		{"", true}, {"a 1", true}, {"a 1,b 1", true}, {"b 1,a 1", false}, {"a 2,a 1", true}, {"a 1,a 2", false}, {"a 1,a 1", false}, {"a 1.0,a 1-0", false}, {"a 1-0,a 1.0", false}, {"a 1.00,a 1.0", false}, {"a 1.0,a 1", true}, {"a 1,a 1.0", false},
		{"a 1.10,a 1.9", true}, {"a 1.9,a 1.10", false}, {"a 1,a 1-rc1", true}, {"a 1-rc1,a 1", false}, {"a 1,b 2,b 1,c 5", true}, {"a 1,b 1,b 2,c 5", false}, {"a 2,b 1,a 1", false}, {"a 2,a 1,b 3,b 2,b 1,c 1", true}, {"a 3,a 1,a 2", false},
		{"A 1,a 1", true}, {"a 1,A 1", false}, {"a 1,a+ 1,aa 1", true}, {"aa 1,a 1", false}, {"a 1,.b 1", false}, {"a 1,b x", false}, {"a x", false}, {"a-b 1,a.b 1,ab 1", true}, {"a 2,a 1.0,a 1-0", false}, {"a 0,a 0a", true},
	} {
		ix := []impl.Recipe{}
		for _, head := range strings.FieldsFunc(row.heads, func(r rune) bool { return r == ',' }) {
			ix = append(ix, recipeOf(head))
		}
		if impl.IndexOk(ix) != row.want {
			t.Errorf("%s is an index: %v", row.heads, !row.want)
		}
	}
	if !impl.IndexOk(nil) || !impl.IndexOk(smallIndex()) {
		t.Error("an index is none")
	}
	for at := range smallIndex() {
		ix := smallIndex()
		ix[at].When = "("
		if impl.IndexOk(ix) {
			t.Error("an index with a recipe that can't be, at ", at)
		}
	}
}

func manyRecipes(n int) []impl.Recipe {
	ix := []impl.Recipe{}
	for _, name := range numbers("n%03d", n) {
		ix = append(ix, recipeOf(name+" 1"))
	}
	return ix
}

func TestIndexesWithMaxIndex(t *testing.T) {
	newest := []impl.Recipe{}
	for n := range impl.MaxIndex + 1 {
		newest = append(newest, recipeOf(fmt.Sprint("a ", 1000-n)))
	}
	for n, want := range map[int]bool{199: true, impl.MaxIndex: true, impl.MaxIndex + 1: false} {
		if impl.IndexOk(manyRecipes(n)) != want || impl.IndexOk(newest[:n]) != want {
			t.Errorf("%d recipes are an index: %v", n, !want)
		}
		if got := impl.Candidates(manyRecipes(n), "n198", "*", nil); want && !slices.Equal(got, []int64{198}) || !want && len(got) > 0 {
			t.Errorf("%d recipes: candidates are %v", n, got)
		}
		if got := impl.Candidates(newest[:n], "a", ">=2", nil); want && (len(got) != n || got[n-1] != int64(n-1)) || !want && len(got) > 0 {
			t.Errorf("%d versions: candidates are %v", n, got)
		}
		if got := impl.Reachable(manyRecipes(n), []string{"n198"}); (len(got) == 1) != want {
			t.Errorf("%d recipes: reachable are %v", n, got)
		}
	}
}

func TestIndexesByChance(t *testing.T) {
	m := rand.New(rand.NewSource(88))
	versions := []string{"1", "1.0", "1-0", "2", "2-rc1", "10"}
	seen := map[bool]int{}
	for range 60000 {
		ix := []impl.Recipe{}
		for range m.Intn(4) {
			ix = append(ix, recipeOf("ab"[m.Intn(2):][:1]+" "+versions[m.Intn(6)]))
		}
		can := true
		for i := 1; i < len(ix); i++ {
			a, b := ix[i-1], ix[i]
			can = can && (a.Name < b.Name || a.Name == b.Name && plainCompare(a.Version, b.Version) == 1)
		}
		seen[can]++
		if impl.IndexOk(ix) != can {
			t.Fatalf("%s is an index: %v", namesAndVersions(ix), !can)
		}
	}
	if seen[true] < 5000 || seen[false] < 5000 {
		t.Error(seen)
	}
}

func TestGrow(t *testing.T) {
	chain := featuring(recipeOf("x 1"), "a:b", "b:c", "c:d")
	back := featuring(recipeOf("x 1"), "a:z", "b:a", "c:b", "d:c", "e:d")
	circle := featuring(recipeOf("x 1"), "a:b", "b:c", "c:a d", "own:own")
	wide := featuring(recipeOf("x 1"), "a:b c d", "c:A z0 zz", "q:r", "zz:none")
	for _, row := range []struct {
		what  string
		made  impl.Recipe
		flags string
		want  string
	}{
		{"no features", recipeOf("x 1"), "", ""}, {"no features", recipeOf("x 1"), "b a", "a b"}, {"no features", recipeOf("x 1"), "a a b a", "a b"}, {"its own name", recipeOf("x 1"), "x", "x"},
		{"chain", chain, "", ""}, {"chain", chain, "a", "a b c d"}, {"chain", chain, "b", "b c d"}, {"chain", chain, "c", "c d"}, {"chain", chain, "d", "d"}, {"chain", chain, "e c", "c d e"}, {"chain", chain, "a c", "a b c d"}, {"chain", chain, "A aa", "A aa"},
		{"back", back, "e", "a b c d e z"}, {"back", back, "d", "a b c d z"}, {"back", back, "c", "a b c z"}, {"back", back, "z", "z"},
		{"circle", circle, "a", "a b c d"}, {"circle", circle, "b", "a b c d"}, {"circle", circle, "c", "a b c d"}, {"circle", circle, "d", "d"}, {"circle", circle, "own", "own"},
		{"wide", wide, "a", "A a b c d none z0 zz"}, {"wide", wide, "r", "r"}, {"wide", wide, "q a", "A a b c d none q r z0 zz"}, {"wide", wide, "true false", "false true"},
		{"nothing comes of it", featuring(recipeOf("x 1"), "a:"), "a", "a"}, {"words that conditions have", featuring(recipeOf("x 1"), "false:true"), "false", "false true"},
	} {
		if got := impl.Grow(row.made, strings.Fields(row.flags)); strings.Join(got, " ") != row.want {
			t.Errorf("%s: %q grows into %q", row.what, row.flags, got)
		}
	}
	long := recipeOf("x 1")
	for n := range impl.MaxDeps {
		long.Features = append(long.Features, impl.Feature{Name: fmt.Sprintf("f%02d", n), Needs: []string{fmt.Sprintf("f%02d", n-1+n/20)}})
	}
	long.Features[0].Needs = numbers("g%04d", 2500)
	if got := impl.Grow(long, []string{"f19"}); len(got) != 2520 || got[0] != "f00" || got[19] != "f19" || got[2519] != "g2499" {
		t.Errorf("%d grow, from %v on", len(got), got[:1])
	}
	if got := impl.Grow(chain, []string{"a", "b c"}); len(got) > 0 {
		t.Errorf("a flag that is no name grows into %q", got)
	}
}

// Flags that are not as they should be are so for Grow, for Active, for Candidates and for a problem.
func TestFlagsThatAreWrong(t *testing.T) {
	chain := featuring(recipeOf("x 1", "lib *"), "a:b")
	ix := []impl.Recipe{recipeOf("lib 1"), chain}
	for _, row := range []struct {
		what  string
		flags []string
		want  bool
	}{
		{"none", nil, true}, {"no flags", []string{}, true}, {"one twice", []string{"a", "a"}, true}, {"out of order", []string{"b", "a"}, true}, {"an empty one", []string{""}, false}, {"an empty one behind", []string{"a", ""}, false}, {"a blank", []string{"a b"}, false},
		{"a dot first", []string{"a", ".b", "c"}, false}, {"60 bytes", []string{strings.Repeat("f", 60)}, true}, {"61 bytes", []string{strings.Repeat("f", 61)}, false}, {"a not", []string{"!a"}, false}, {"true", []string{"true"}, true}, {"another alphabet", []string{"é"}, false},
		{"MaxMany", numbers("f%04d", impl.MaxMany), true}, {"one more", numbers("f%04d", impl.MaxMany+1), false}, {"one, MaxMany times", slices.Repeat([]string{"a"}, impl.MaxMany), true}, {"one, once more", slices.Repeat([]string{"a"}, impl.MaxMany+1), false},
	} {
		grown := impl.Grow(chain, row.flags)
		if !row.want && len(grown) > 0 || row.want && len(row.flags) > 0 && len(grown) == 0 {
			t.Errorf("%s: grows into %d", row.what, len(grown))
		}
		if got := len(impl.Active(chain, row.flags)); (got == 1) != row.want {
			t.Errorf("%s: %d are active", row.what, got)
		}
		if got := len(impl.Candidates(ix, "lib", "*", row.flags)); (got == 1) != row.want {
			t.Errorf("%s: %d candidates", row.what, got)
		}
		p := impl.Problem{Index: ix, Flags: row.flags, Wants: []impl.Wanted{{Name: "x", Want: "*"}}}
		if impl.ProblemOk(p) != row.want || (impl.Solve(p).Code == impl.SolveOk) != row.want {
			t.Errorf("%s: a problem: %v, and solved: %v", row.what, impl.ProblemOk(p), impl.Solve(p).Code)
		}
	}
}

func TestActive(t *testing.T) {
	made := featuring(recipeOf("x 1", "?a * if full", "b ^1 if !slim", "@c =1||=2 if linux&tls", "d *", "e * if false", "f * if x"), "full:tls", "slim:", "tls:deep")
	for flags, want := range map[string]string{
		"": "b d", "slim": "d", "linux": "b d", "tls": "b d", "linux tls": "b c d", "tls linux slim": "c d", "full": "a b d", "full linux": "a b c d", "linux full slim": "a c d", "deep linux": "b d", "x": "b d f", "x full linux slim x": "a c d f", "true": "b d",
	} {
		got := impl.Active(made, strings.Fields(flags))
		wanted := []impl.Dep{}
		for _, dep := range made.Deps {
			if slices.Contains(strings.Fields(want), dep.Name) {
				wanted = append(wanted, dep)
			}
		}
		if !slices.Equal(got, wanted) {
			t.Errorf("with %q active are %v, not %s", flags, got, want)
		}
	}
	if got := impl.Active(impl.Recipe{Name: "x", Deps: made.Deps}, nil); len(got) > 0 {
		t.Error("of a recipe that can't be active are", got)
	}
	// The limit is for the flags that are given, not for what grows from them.
	flags := append(numbers("f%04d", impl.MaxMany-2), "full", "linux")
	if got := impl.Active(made, flags); len(got) != 4 || got[2].Name != "c" {
		t.Error("with MaxMany flags active are", got)
	}
}

func TestCandidates(t *testing.T) {
	ix := smallIndex()
	for _, row := range []struct {
		name  string
		want  string
		flags string
		found []int64
	}{
		{"app", "*", "linux", []int64{0, 1, 2, 3}}, {"app", "*", "", []int64{1, 2, 3}}, {"app", "^1", "linux", []int64{1, 2, 3}}, {"app", "^1.9", "linux", []int64{1, 2}}, {"app", ">=2", "linux", []int64{0}}, {"app", ">=2", "", nil}, {"app", "=2 || <1.9", "linux", []int64{0, 3}},
		{"app", "=1.9", "", []int64{2}}, {"app", "=1-9", "", []int64{2}}, {"app", ">2", "linux", nil}, {"app", "!=1.9", "", []int64{1, 3}}, {"lib", "*", "", []int64{4, 5, 6}}, {"lib", "*", "linux", []int64{4, 6}}, {"lib", "~2.0", "", []int64{5}}, {"lib", "~2.0", "linux musl", nil},
		{"zip", "*", "", []int64{9}}, {"ghost", "*", "", nil}, {"", "*", "", nil}, {"ap", "*", "", nil}, {"appp", "*", "", nil}, {"APP", "*", "linux", nil}, {"app", "", "linux", nil}, {"app", "1.9", "linux", nil}, {"app", "^", "linux", nil}, {"app", "* ^1", "linux", nil}, {"app", "=2 ||", "linux", nil},
	} {
		if got := impl.Candidates(ix, row.name, row.want, strings.Fields(row.flags)); !slices.Equal(got, row.found) {
			t.Errorf("%s %s with %q: %v, not %v", row.name, row.want, row.flags, got, row.found)
		}
	}
	// Features grow for the Deps alone, not for the platforms.
	grows := []impl.Recipe{onlyWhen(featuring(recipeOf("x 1"), "a:b"), "b")}
	if len(impl.Candidates(grows, "x", "*", []string{"a"})) > 0 || len(impl.Candidates(grows, "x", "*", []string{"b"})) != 1 {
		t.Error("a When holds with what grows")
	}
	slices.Reverse(ix)
	if got := impl.Candidates(ix, "app", "*", nil); len(got) > 0 {
		t.Error("of what is no index candidates are", got)
	}
}

func TestReachable(t *testing.T) {
	ix := smallIndex()
	round := []impl.Recipe{recipeOf("a 1", "b *"), recipeOf("b 1", "c *"), recipeOf("c 2", "d * if false"), recipeOf("c 1", "@a *"), recipeOf("d 1"), recipeOf("e 1", "?e2 =9")}
	for _, row := range []struct {
		ix    []impl.Recipe
		names string
		want  string
	}{
		{ix, "", ""}, {ix, "zip", "zip"}, {ix, "app", "app lib log zip"}, {ix, "lib", "lib zip"}, {ix, "log", "app lib log zip"}, {ix, "tool", "tool"}, {ix, "ghost", ""}, {ix, "ghost zip ghost", "zip"}, {ix, "zip zip", "zip"}, {ix, "zip tool", "tool zip"}, {ix, "zip lib tool", "lib tool zip"},
		{round, "a", "a b c d"}, {round, "b", "a b c d"}, {round, "c", "a b c d"}, {round, "d", "d"}, {round, "e", "e"}, {round, "d e", "d e"}, {round, "e2", ""}, {round, "e a", "a b c d e"}, {nil, "a", ""}, {nil, "", ""},
	} {
		if got := impl.Reachable(row.ix, strings.Fields(row.names)); strings.Join(got, " ") != row.want {
			t.Errorf("from %q reachable are %q, not %s", row.names, got, row.want)
		}
	}
	if got := impl.Reachable(ix, []string{"", "a b", ".x", "zip", strings.Repeat("n", 99)}); !slices.Equal(got, []string{"zip"}) {
		t.Errorf("from what is no name reachable are %q", got)
	}
	many := append(numbers("n%04d", impl.MaxMany-1), "lib")
	if got := impl.Reachable(ix, many); !slices.Equal(got, []string{"lib", "zip"}) {
		t.Errorf("from MaxMany names reachable are %q", got)
	}
	if got := impl.Reachable(ix, append(many, "lib")); len(got) > 0 {
		t.Errorf("from MaxMany names and one more reachable are %q", got)
	}
	slices.Reverse(ix)
	if got := impl.Reachable(ix, []string{"zip"}); len(got) > 0 {
		t.Errorf("in what is no index reachable are %q", got)
	}
}

func TestReachableByChance(t *testing.T) {
	m := rand.New(rand.NewSource(89))
	for range 3000 {
		ix := []impl.Recipe{}
		leads := map[string]map[string]bool{}
		for _, name := range strings.Fields("a b c d e f g") {
			for version := m.Intn(3); version > 0; version-- {
				made := recipeOf(fmt.Sprint(name, " ", version))
				for _, other := range strings.Fields("a b c d e f g h") {
					if other != name && m.Intn(8) == 0 {
						made.Deps = append(made.Deps, impl.Dep{Name: other, Want: "*", When: []string{"true", "false"}[m.Intn(2)], Kind: int64(m.Intn(3))})
					}
				}
				ix = append(ix, made)
			}
		}
		for _, made := range ix {
			if leads[made.Name] == nil {
				leads[made.Name] = map[string]bool{made.Name: true}
			}
			for _, dep := range made.Deps {
				leads[made.Name][dep.Name] = true
			}
		}
		// Steps are joined till there are no more: whence each name leads is known then.
		for range 8 {
			for from := range leads {
				for over := range leads[from] {
					for to := range leads[over] {
						leads[from][to] = true
					}
				}
			}
		}
		start := []string{"a", "h", "d"}[:m.Intn(4)]
		want := []string{}
		for name := range leads {
			if slices.ContainsFunc(start, func(from string) bool { return leads[from][name] }) {
				want = append(want, name)
			}
		}
		slices.Sort(want)
		if got := impl.Reachable(ix, start); !slices.Equal(got, want) {
			t.Fatalf("from %q in %v reachable are %q, not %q", start, ix, got, want)
		}
	}
}

func TestAdd(t *testing.T) {
	for _, row := range []struct {
		heads string
		added string
		want  string
	}{
		{"", "a 1", "a 1"}, {"b 1", "a 1", "a 1, b 1"}, {"b 1", "c 1", "b 1, c 1"}, {"b 1", "b 2", "b 2, b 1"}, {"b 2", "b 1", "b 2, b 1"}, {"b 1", "b 1", "b 1"}, {"b 1.0", "b 1-0", "b 1-0"}, {"b 3,b 1", "b 2", "b 3, b 2, b 1"}, {"b 3,b 1", "b 4", "b 4, b 3, b 1"}, {"b 3,b 1", "b 0", "b 3, b 1, b 0"},
		{"b 3,b 1", "b 1", "b 3, b 1"}, {"b 3,b 1", "b 3", "b 3, b 1"}, {"a 1,c 1", "b 1", "a 1, b 1, c 1"}, {"a 1,c 1", "c 2", "a 1, c 2, c 1"}, {"a 1,c 1", "d 9", "a 1, c 1, d 9"}, {"a 1.0,a 1,b 1", "a 1.0-rc", "a 1.0, a 1.0-rc, a 1, b 1"}, {"a 1,b 1,c 1", "b 01", "a 1, b 01, c 1"}, {"a 10,a 9", "a 9.5", "a 10, a 9.5, a 9"},
	} {
		ix := []impl.Recipe{}
		for _, head := range strings.FieldsFunc(row.heads, func(r rune) bool { return r == ',' }) {
			ix = append(ix, recipeOf(head))
		}
		made := recipeOf(row.added, "x ^1 if a", "?y *")
		made.Source = "new"
		got, ok := impl.Add(ix, featuring(made, "f:g h"))
		if !ok || namesAndVersions(got) != row.want || !impl.IndexOk(got) {
			t.Errorf("%s and %s: %s, %v", row.heads, row.added, namesAndVersions(got), ok)
		}
		at := slices.IndexFunc(got, func(made impl.Recipe) bool { return made.Source == "new" })
		if at < 0 || !same(got[at], featuring(made, "f:g h")) {
			t.Errorf("%s and %s: it is told as %+v", row.heads, row.added, got)
		}
	}
}

func TestAddIsRefused(t *testing.T) {
	ix := smallIndex()
	ix[3] = wholeRecipe()
	ix[3].Version = "1"
	for _, wrong := range []impl.Recipe{{}, recipeOf("app x"), recipeOf(".a 1"), recipeOf("a 1", "a *"), onlyWhen(recipeOf("a 1"), "!"), recipeOf("z 1", "b *", "a *")} {
		if got, ok := impl.Add(ix, wrong); ok || !same(got, ix) {
			t.Errorf("%v is added: %v, %v", wrong, got, ok)
		}
	}
	for n, want := range map[int]int{199: 200, 200: 200} {
		got, ok := impl.Add(manyRecipes(n), recipeOf("m 1"))
		if ok != (n < want) || len(got) != want || ok == (got[0].Name != "m") {
			t.Errorf("to %d one is added: %v, and there are %d", n, ok, len(got))
		}
		got, ok = impl.Add(manyRecipes(n), recipeOf("n007 1.", "x *"))
		if !ok || len(got) != n || got[7].Version != "1." || len(got[7].Deps) != 1 {
			t.Errorf("of %d one gives way: %v, and there are %d", n, ok, len(got))
		}
	}
	for _, none := range [][]impl.Recipe{manyRecipes(201), {recipeOf("b 1"), recipeOf("a 1")}, {{}}, {recipeOf("a 1"), recipeOf("a 1")}} {
		for _, made := range []impl.Recipe{recipeOf("a 1"), {}} {
			if got, ok := impl.Add(none, made); ok || len(got) > 0 {
				t.Errorf("to what is no index one is added: %v, %v", got, ok)
			}
		}
	}
}

func TestIndexArgumentsStay(t *testing.T) {
	wrong := smallIndex()
	slices.Reverse(wrong)
	for _, ix := range [][]impl.Recipe{smallIndex(), wrong, {wholeRecipe()}, manyRecipes(200), nil} {
		ix, stays := roomyAll(ix)
		made, madeStays := roomyAll(wholeRecipe())
		flags, flagsStay := roomy(strings.Fields("tls linux full a tls"), "room")
		names, namesStay := roomy(strings.Fields("zip lib app app ghost"), "room")
		impl.RecipeOk(made)
		impl.IndexOk(ix)
		impl.Grow(made, flags)
		impl.Active(made, flags)
		impl.Candidates(ix, "app", "*", flags)
		impl.Reachable(ix, names)
		impl.Add(ix, made)
		impl.Add(ix, recipeOf("lib 2.0"))
		impl.Add(ix, impl.Recipe{})
		if !stays() || !madeStays() || !flagsStay() || !namesStay() {
			t.Errorf("written into %v", ix)
		}
	}
}

func TestIndexAnswersAreNewMemory(t *testing.T) {
	made, flags := wholeRecipe(), strings.Fields("tls linux full a tls")
	ix := append(smallIndex(), recipeOf("zoo 1"))
	ix[3] = featuring(recipeOf("app 1", "b *", "c *"), "f:g", "h:i j")
	names, most := strings.Fields("zip lib app"), manyRecipes(impl.MaxIndex)
	answers := func() []any {
		grown, active := impl.Grow(made, flags), impl.Active(made, flags)
		numbers, reached := impl.Candidates(ix, "app", "*", flags), impl.Reachable(ix, names)
		added, _ := impl.Add(ix, made)
		refused, _ := impl.Add(ix, impl.Recipe{})
		full, _ := impl.Add(most, made)
		return []any{grown, active, numbers, reached, added, refused, full}
	}
	first, second := answers(), answers()
	for i := range first {
		if !isNew(first[i], made, flags, ix, names, most) || !isNew(first[i], second[i]) {
			t.Errorf("answer %d shares memory: %v", i, first[i])
		}
		if !same(first[i], second[i]) || same(first[i], []string{}) {
			t.Errorf("answer %d: %v, then %v", i, first[i], second[i])
		}
	}
}
