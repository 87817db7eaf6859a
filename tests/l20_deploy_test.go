package tests

import (
	"fmt"
	"math"
	"math/rand"
	"slices"
	"strings"
	"testing"

	"loop.example/g00023/impl"
)

// sourced has a Source, which writes its version into a file of its own name, and the address of each of these of its Deps that it is given.
func sourced(made impl.Recipe, deps ...string) impl.Recipe {
	program, more := "mkdir "+made.Name+"\nenv "+made.Name+"/version v\n", ""
	for _, dep := range deps {
		program += "env " + made.Name + "/" + dep + " " + dep + "\n"
		more += dep + " = if x ? " + dep + " then x." + dep + ".out else \"none\"; "
	}
	made.Source = "x: derive { name = " + impl.ShowText(made.Name) + "; builder = " + impl.ShowText(program) + "; v = x.version; " + more + "}"
	return made
}

// shop has an app that needs a lib and may have a doc, and two versions of each.
func shop() []impl.Recipe {
	return []impl.Recipe{
		sourced(recipeOf("app 2.0", "?doc *", "lib ^2"), "doc", "lib"), sourced(recipeOf("app 1.0", "?doc *", "lib *"), "doc", "lib"),
		sourced(recipeOf("doc 1.1")), sourced(recipeOf("doc 1.0-rc1")),
		sourced(recipeOf("lib 2.3")), sourced(recipeOf("lib 1.4")),
		sourced(recipeOf("tool 3", "@app *", "lib <2 if old"), "app", "lib"),
	}
}

func composeIs(t *testing.T, p impl.Problem, code int64, want string) {
	t.Helper()
	if plain, plainCode := plainCompose(p); plain != want || plainCode != code {
		t.Errorf("plain words: %q, %d\nnot %q, %d", plain, plainCode, want, code)
	}
	if got, gotCode := impl.Compose(p); got != want || gotCode != code {
		t.Errorf("%q, %d\nnot %q, %d", got, gotCode, want, code)
	}
}

// short has S and the name as each Source.
func short(ix []impl.Recipe) []impl.Recipe {
	for i := range ix {
		ix[i].Source = "S" + ix[i].Name
	}
	return ix
}

func TestCompose(t *testing.T) {
	ix := short(shop())
	for _, row := range []struct{ wants, flags, lock, want string }{
		{"", "", "", "let all = rec { }; in [ ]"},
		{"lib *", "", "", `let all = rec { lib = (Slib) { version = "2.3"; }; }; in [ all.lib ]`},
		{"lib <2", "", "", `let all = rec { lib = (Slib) { version = "1.4"; }; }; in [ all.lib ]`},
		{"doc <1.0", "", "", `let all = rec { doc = (Sdoc) { version = "1.0-rc1"; }; }; in [ all.doc ]`},
		// Several Wants, in their order, and the same twice.
		{"lib *;doc *", "", "", `let all = rec { doc = (Sdoc) { version = "1.1"; }; lib = (Slib) { version = "2.3"; }; }; in [ all.lib all.doc ]`},
		{"lib *;lib *", "", "", `let all = rec { lib = (Slib) { version = "2.3"; }; }; in [ all.lib all.lib ]`},
		{"lib *;doc *;lib <2;doc *", "", "", `let all = rec { doc = (Sdoc) { version = "1.1"; }; lib = (Slib) { version = "1.4"; }; }; in [ all.lib all.doc all.lib all.doc ]`},
		// Active Deps that are picked, of every Kind, and that are not.
		{"app *", "", "", `let all = rec { app = (Sapp) { lib = lib; version = "2.0"; }; lib = (Slib) { version = "2.3"; }; }; in [ all.app ]`},
		{"app *;doc *", "", "", `let all = rec { app = (Sapp) { doc = doc; lib = lib; version = "2.0"; }; doc = (Sdoc) { version = "1.1"; }; lib = (Slib) { version = "2.3"; }; }; in [ all.app all.doc ]`},
		{"tool *;app *", "", "", `let all = rec { app = (Sapp) { lib = lib; version = "2.0"; }; lib = (Slib) { version = "2.3"; }; tool = (Stool) { app = app; version = "3"; }; }; in [ all.tool all.app ]`},
		{"tool *;app *", "old", "", `let all = rec { app = (Sapp) { lib = lib; version = "1.0"; }; lib = (Slib) { version = "1.4"; }; tool = (Stool) { app = app; lib = lib; version = "3"; }; }; in [ all.tool all.app ]`},
		{"app *", "", "lib 1.4", `let all = rec { app = (Sapp) { lib = lib; version = "2.0"; }; lib = (Slib) { version = "2.3"; }; }; in [ all.app ]`},
		{"app *", "", "app 1.0, lib 1.4", `let all = rec { app = (Sapp) { lib = lib; version = "1.0"; }; lib = (Slib) { version = "1.4"; }; }; in [ all.app ]`},
	} {
		p := problem(ix, row.wants)
		p.Flags, p.Lock = strings.Fields(row.flags), picksOf(row.lock)
		composeIs(t, p, 0, row.want)
	}
	// What comes by features counts too.
	grown := featuring(recipeOf("a 1", "b * if z", "c * if y", "d * if w"), "x:y", "y:z")
	p := problem(short([]impl.Recipe{grown, recipeOf("b 1"), recipeOf("c 1"), recipeOf("d 1")}), "a *;d *")
	composeIs(t, p, 0, `let all = rec { a = (Sa) { version = "1"; }; d = (Sd) { version = "1"; }; }; in [ all.a all.d ]`)
	p.Flags = []string{"x"}
	composeIs(t, p, 0, `let all = rec { a = (Sa) { b = b; c = c; version = "1"; }; b = (Sb) { version = "1"; }; c = (Sc) { version = "1"; }; d = (Sd) { version = "1"; }; }; in [ all.a all.d ]`)
	// A Source is any text.
	for _, source := range []string{"", ")", "# note", "\x00\xff\"\n", strings.Repeat("x", 4000)} {
		p = problem([]impl.Recipe{{Name: "a", Version: "1", When: "true", Source: source}}, "a *")
		composeIs(t, p, 0, "let all = rec { a = ("+source+") { version = \"1\"; }; }; in [ all.a ]")
	}
}

func TestComposeOfWhatIsNotSolved(t *testing.T) {
	ix := short(shop())
	composeIs(t, problem(ix, "lib =9"), 3, "")
	composeIs(t, problem(ix, "none *"), 3, "")
	composeIs(t, problem(ix, "tool *"), 3, "")
	composeIs(t, problem(ix, "app >=2;lib <2"), 3, "")
	composeIs(t, problem(ix, "lib"), 1, "")
	composeIs(t, problem(ix, ".lib *"), 1, "")
	composeIs(t, impl.Problem{Index: ix[1:], Wants: wantsOf(slices.Repeat([]string{"lib *"}, 21)...)}, 1, "")
	composeIs(t, impl.Problem{Index: ix, Flags: []string{""}}, 1, "")
	composeIs(t, impl.Problem{Index: ix, Lock: picksOf("b 1, a 1")}, 1, "")
	slices.Reverse(ix)
	composeIs(t, problem(ix, "lib *"), 1, "")
	composeIs(t, impl.Problem{}, 0, "let all = rec { }; in [ ]")
	many, all := []impl.Recipe{}, []string{}
	for i := range 9 {
		many, all = append(many, recipeOf(fmt.Sprint("n", i, " 1"))), append(all, fmt.Sprint("n", i, " *"))
	}
	composeIs(t, problem(many, strings.Join(all, ";")), 2, "")
	if _, code := impl.Compose(problem(many, strings.Join(all[:8], ";"))); code != 0 {
		t.Error(code)
	}
}

func TestComposeOfWhatIsNoWord(t *testing.T) {
	long := strings.Repeat("x", 60)
	for name, want := range map[string]int64{
		"a": 0, "_": 0, "a-b": 0, "a_b": 0, "a1": 0, "_1": 0, "A-": 0, long: 0, "all": 0, "version": 0, "lets": 0, "Let": 0, "True": 0, "maps": 0, "inn": 0,
		"a.b": 1, "a+b": 1, "a+": 1, "1": 1, "1a": 1, "-": 1, "-a": 1, "+": 1, "+a": 1, "a.": 1, "1.0": 1, "_.": 1,
		"let": 1, "in": 1, "rec": 1, "with": 1, "if": 1, "then": 1, "else": 1, "inherit": 1, "assert": 1, "or": 1,
	} {
		wordIs(t, name, want)
	}
	for _, name := range impl.BuiltinNames() {
		wordIs(t, name, 1)
		wordIs(t, name+"s", 0)
		wordIs(t, "s"+name, 0)
	}
	everyText("a1_-.+", 3, func(name string) {
		if impl.NameOk(name) {
			_, code := plainCompose(problem([]impl.Recipe{recipeOf(name + " 1")}, name+" *"))
			wordIs(t, name, code)
		}
	})
}

// wordIs asks for a recipe of that name: wanted, needed by another one, and not picked.
func wordIs(t *testing.T, name string, code int64) {
	t.Helper()
	made := short([]impl.Recipe{recipeOf(name + " 1")})
	text := "let all = rec { " + name + " = (S" + name + ") { version = \"1\"; }; }; in [ all." + name + " ]"
	if code > 0 {
		text = ""
	}
	composeIs(t, problem(made, name+" *"), code, text)
	user := short([]impl.Recipe{recipeOf("zzz 1", name+" *")})[0]
	text = "let all = rec { " + name + " = (S" + name + ") { version = \"1\"; }; zzz = (Szzz) { " + name + " = " + name + "; version = \"1\"; }; }; in [ all.zzz ]"
	if code > 0 {
		text = ""
	}
	composeIs(t, problem(append(slices.Clone(made), user), "zzz *"), code, text)
	user.Deps[0].Kind = impl.DepOptional
	composeIs(t, problem(append(slices.Clone(made), user), "zzz *"), 0, `let all = rec { zzz = (Szzz) { version = "1"; }; }; in [ all.zzz ]`)
}

func TestComposeByChance(t *testing.T) {
	m := solveMaker{rand.New(rand.NewSource(201))}
	codes := map[int64]int{}
	for range 4000 {
		p := m.problem("abcd", 3, true)
		for i := range p.Index {
			p.Index[i].Source = "S" + p.Index[i].Name + p.Index[i].Version
		}
		if m.Intn(10) == 0 {
			p.Wants = append(p.Wants, impl.Wanted{Name: m.one("", "a", "z"), Want: m.one("", "*")})
		}
		text, code := plainCompose(p)
		codes[code]++
		composeIs(t, p, code, text)
	}
	if codes[0] < 500 || codes[1] < 50 || codes[3] < 500 {
		t.Error(codes)
	}
}

func deploy(t *testing.T, w impl.World, name string, p impl.Problem, steps int64) impl.Installed {
	t.Helper()
	got, plain := impl.Deploy(w, name, p, steps), plainDeploy(w, name, p, steps)
	if !same(got, plain) {
		t.Errorf("%v\ndeployed in %.900v:\n%.1500v\nnot, in plain words,\n%.1500v", p.Wants, w, got, plain)
	}
	return got
}

// dataAt follows a link of a profile to the file that it shows.
func dataAt(w impl.World, profile, path string) string {
	tree := w.Store[plainItemAt(w.Store, profile)].Tree
	at := plainFind(tree, path)
	if at < 0 {
		return "nothing"
	}
	address, inner, _ := strings.Cut(tree[at].Data, "/")
	item := plainItemAt(w.Store, address)
	if item < 0 {
		return "no item"
	}
	at = plainFind(w.Store[item].Tree, inner)
	return w.Store[item].Tree[at].Data
}

// deployHolds: what is wanted is shown in the version that was picked, and needs no more than the choice; done twice, it changes nothing more.
func deployHolds(t *testing.T, w impl.World, name string, p impl.Problem, i impl.Installed) {
	t.Helper()
	picks := impl.Solve(p).Picks
	for _, wanted := range p.Wants {
		version, _ := plainVersionIn(picks, wanted.Name)
		if got := dataAt(i.World, i.Path, wanted.Name+"/version"); got != version || version == "" {
			t.Errorf("%v: %s is %q, not %q", p.Wants, wanted.Name, got, version)
		}
	}
	for _, path := range impl.Needed(i.World, name) {
		item := i.World.Store[plainItemAt(i.World.Store, path)]
		shown := slices.IndexFunc(item.Tree, func(e impl.Entry) bool { return strings.HasSuffix(e.Path, "/version") })
		if path == i.Path {
			continue
		}
		version, isPicked := plainVersionIn(picks, strings.TrimSuffix(item.Tree[max(shown, 0)].Path, "/version"))
		if !isPicked || item.Tree[shown].Data != version || item.From == "" {
			t.Errorf("%v: %q is needed, and was not picked", p.Wants, path)
		}
	}
	if !impl.WorldOk(i.World) || impl.Current(i.World.Profiles, name) != i.Path || len(i.Writes) != 4 {
		t.Errorf("%v: %v", p.Wants, i)
	}
	again := deploy(t, i.World, name, p, 0)
	if again.Code != 0 || again.Path != i.Path || !same(again.World, i.World) {
		t.Errorf("%v, again: %v", p.Wants, again)
	}
	// What nobody needs goes, and what is deployed stays.
	left := impl.RunWorld(i.World, impl.PlanCollect(i.World), math.MaxInt64)
	wholeStays(t, i.World, left, impl.Needed(i.World, name))
	rollbackHoldsFor(t, w, name, i)
}

func TestDeploy(t *testing.T) {
	ix, w := shop(), worldOf("a: ; he:1 1a")
	for _, row := range []struct{ wants, flags, needs, deps string }{
		{"lib *", "", "lib sys", ""}, {"lib <2", "", "lib sys", ""}, {"app *", "", "app lib sys", "app/doc=none app/lib=lib"}, {"doc *;app *", "", "app doc lib sys", "app/doc=doc app/lib=lib"}, {"app <2;lib <2", "", "app lib sys", "app/lib=lib app/doc=none"},
		{"app *;tool *", "", "app lib sys tool", "tool/app=app tool/lib=none app/lib=lib"}, {"tool *;app *", "old", "app lib sys tool", "tool/app=app tool/lib=lib app/lib=lib"}, {"app *;app *;lib *", "", "app lib sys", "app/lib=lib"}, {"", "", "sys", ""},
	} {
		p := problem(ix, row.wants)
		p.Flags = strings.Fields(row.flags)
		i := deploy(t, w, "sys", p, 50)
		if i.Code != 0 || standing(t, i.World, "sys") != row.needs {
			t.Errorf("%q: %d, %q", row.wants, i.Code, standing(t, i.World, "sys"))
			continue
		}
		deployHolds(t, w, "sys", p, i)
		for word := range strings.FieldsSeq(row.deps) {
			path, want, _ := strings.Cut(word, "=")
			got := dataAt(i.World, i.Path, path)
			if got != want && bareOf([]string{got}) != want {
				t.Errorf("%q: %s is %q, not %q", row.wants, path, got, want)
			}
		}
		w = i.World
	}
	// From the wishes to the files, and back to what was wished for ahead.
	if back := impl.DoWrite(w, impl.Write{Kind: impl.WriteBack, Name: "sys"}); standing(t, back, "sys") != "app lib sys" {
		t.Error(standing(t, back, "sys"))
	}
}

func TestDeployWithEachCode(t *testing.T) {
	ix, w := shop(), worldOf("a: b:a ; me:1 1a ; d: ; me=b")
	nothing := func(code int64) impl.Installed { return impl.Installed{Code: code, World: w} }
	deployIs := func(p impl.Problem, steps int64, want impl.Installed) {
		t.Helper()
		if got := deploy(t, w, "sys", p, steps); !same(got, want) {
			t.Errorf("%v: %d, %v", p.Wants, got.Code, got.World)
		}
	}
	deployIs(problem(ix, "none *"), 50, nothing(603))
	deployIs(problem(ix, "app >=2;lib <2"), 50, nothing(603))
	deployIs(problem(ix, "lib"), 50, nothing(601))
	deployIs(problem([]impl.Recipe{recipeOf("a.b 1")}, "a.b *"), 50, nothing(601))
	deployIs(problem([]impl.Recipe{recipeOf("derive 1")}, "derive *"), 50, nothing(601))
	big := []impl.Recipe{}
	for i := range 25 {
		big = append(big, recipeOf(fmt.Sprint("a ", 99-i)))
	}
	deployIs(problem(big, "a *"), 50, nothing(602))
	// Nothing is chosen, whatever else is wrong: no step of it is done.
	deployIs(problem(ix, "none *"), -1, nothing(603))
	if got := deploy(t, w, ".sys", problem(ix, "none *"), 50); !same(got, nothing(603)) {
		t.Error(got)
	}
	for _, wrong := range wrongWorlds() {
		if got := deploy(t, wrong, "sys", problem(ix, "lib *"), 50); !same(got, impl.Installed{Code: 100}) {
			t.Error(got)
		}
		if got := impl.Deploy(wrong, "sys", problem(ix, "none *"), 50); got.Code != 603 || len(got.Writes) > 0 || got.Path != "" {
			t.Error(got)
		}
	}
	// The Codes of Install.
	deployIs(problem(ix, "lib *"), -1, impl.Installed{Code: 100})
	deployIs(problem(ix, "lib *"), 10001, impl.Installed{Code: 100})
	deployIs(problem(ix, "lib *"), 1, nothing(202))
	for source, code := range map[string]int64{"": 13, ")": 13, "# note": 13, "1": 4, "x: x.q": 7, "x: q": 5, "x: derive {}": 14, "x: throw \"no\"": 11, "{ q }: q": 7, "{ }: 1": 8, "x: import \"f\"": 12, "x: derive { name = \"a\"; builder = \"need q\"; }": 203, "x: derive { name = \"a\"; builder = \"env f q\"; }": 205} {
		deployIs(problem([]impl.Recipe{{Name: "a", Version: "1", When: "true", Source: source}}, "a *"), 50, nothing(code))
	}
	// What is picked and needed, and its set not asked for, is not looked at.
	lazy := []impl.Recipe{{Name: "a", Version: "1", When: "true", Source: "throw \"no\""}, {Name: "b", Version: "1", When: "true", Source: "x: 1", Deps: wantedDeps("a")}}
	if got := deploy(t, w, "sys", problem(lazy, "b *"), 50); got.Code != 0 || standing(t, got.World, "sys") != "sys" {
		t.Error(got.Code)
	}
	apart := []impl.Recipe{sourced(recipeOf("a 1")), sourced(recipeOf("b 1"))}
	apart[1].Source = strings.ReplaceAll(strings.ReplaceAll(apart[0].Source, "\"a\"", "\"b\""), "v = x.version", "v = \"other\"")
	if got := deploy(t, w, "sys", problem(apart, "a *;b *"), 50); got.Code != 400 || len(got.World.Store) != 4 || !same(got.World.Profiles, w.Profiles) {
		t.Error(got.Code, len(got.World.Store))
	}
	if got := deploy(t, w, "s/s", problem(ix, "lib *"), 50); got.Code != 400 {
		t.Error(got.Code)
	}
	w.Nexts = manyNexts(20)
	if got := deploy(t, w, "sys", problem(ix, "lib *"), 50); got.Code != 500 {
		t.Error(got.Code)
	}
	w.Pending = manyPendings(20)
	deployIs(problem(ix, "lib *"), 50, nothing(304))
}

// A Dep that is named version would stand twice in a set; all that can be wanted is in a text of MaxSource bytes.
func TestDeployOfRecipesThatDontRead(t *testing.T) {
	ix := []impl.Recipe{sourced(recipeOf("app 1", "version *")), sourced(recipeOf("version 1"))}
	if got := deploy(t, impl.World{}, "sys", problem(ix, "version *"), 50); got.Code != 0 {
		t.Error(got.Code)
	}
	if got := deploy(t, impl.World{}, "sys", problem(ix, "app *"), 50); got.Code != 13 {
		t.Error(got.Code)
	}
	great := []impl.Recipe{}
	for _, name := range strings.Fields("a b c d f") {
		made := sourced(recipeOf(name + " 1"))
		made.Source += strings.Repeat(" ", 4000-len(made.Source))
		great = append(great, made)
	}
	for wants, code := range map[string]int64{"a *;b *;c *;d *": 0, "a *;b *;c *;d *;f *": 13} {
		if got := deploy(t, impl.World{}, "sys", problem(great, wants), 50); got.Code != code {
			t.Errorf("%s: %d", wants, got.Code)
		}
	}
}

// The budget is MaxBudget, to the last step.
func TestDeployHasAllTheBudget(t *testing.T) {
	turns := func(n int) impl.Problem {
		return problem([]impl.Recipe{{Name: "a", Version: "1", When: "true", Source: fmt.Sprintf("x: let f = n: if n == 0 then 0 else f (n - 1); in f %d", n)}}, "a *")
	}
	least, most := 0, 50000
	for least+1 < most {
		n := (least + most) / 2
		src, _ := impl.Compose(turns(n))
		if impl.Eval(src, nil, 50000).Code == 0 {
			least = n
		} else {
			most = n
		}
	}
	src, _ := impl.Compose(turns(least))
	if steps := impl.Eval(src, nil, 50000).Steps; least < 1000 || steps < 49970 {
		t.Error(least, steps)
	}
	if got := deploy(t, impl.World{}, "sys", turns(least), 50); got.Code != 0 {
		t.Error(got.Code)
	}
	if got := deploy(t, impl.World{}, "sys", turns(most), 50); !same(got, impl.Installed{Code: 2}) {
		t.Error(got.Code)
	}
}

// A deployMaker makes shops by chance.
type deployMaker struct{ solveMaker }

func (m deployMaker) problem() impl.Problem {
	p := m.solveMaker.problem("abcd", 2, true)
	for i, made := range p.Index {
		names := []string{}
		for _, dep := range made.Deps {
			names = append(names, dep.Name)
		}
		p.Index[i] = sourced(made, names...)
		if m.Intn(40) == 0 {
			p.Index[i].Source = m.one("x: 1", "x: derive {}", "(", "x: derive { name = \"q\"; builder = \"need q\"; }", "x: x.lib")
		}
	}
	return p
}

func TestDeployByChance(t *testing.T) {
	m := deployMaker{solveMaker{rand.New(rand.NewSource(202))}}
	codes, w := map[int64]int{}, impl.World{}
	for range 1500 {
		if m.Intn(12) == 0 {
			w = impl.World{}
		}
		p := m.problem()
		name := m.one("he", "me")
		i := deploy(t, w, name, p, 20)
		codes[i.Code]++
		isPlain := !slices.ContainsFunc(p.Index, func(made impl.Recipe) bool { return !strings.Contains(made.Source, "v = x.version") })
		if i.Code == 0 && isPlain && profileAt(i.World.Profiles, name).Now < 50 {
			deployHolds(t, w, name, p, i)
		}
		if i.Code >= 600 && !same(i.World, w) {
			t.Errorf("%v: nothing was chosen, and something was done", p.Wants)
		}
		w = i.World
		if m.Intn(6) == 0 {
			w = impl.RunWorld(w, impl.PlanCollect(w), math.MaxInt64)
		}
	}
	if codes[0] < 300 || codes[603] < 200 || len(codes) < 5 {
		t.Error(codes)
	}
}
