package tests

import (
	"fmt"
	"math"
	"slices"
	"strings"
	"testing"

	"loop.example/g00023/impl"
)

// programText makes "copy @{a.out} d; need d" the expression of a program of two lines, in which the text a.out stands.
func programText(program string) string {
	pieces := strings.Split(strings.ReplaceAll(program, "; ", "\n"), "{")
	text := impl.ShowText(pieces[0])
	for _, piece := range pieces[1:] {
		inner, rest, _ := strings.Cut(piece, "}")
		text += " + " + inner + " + " + impl.ShowText(rest)
	}
	return text
}

// recipeFor knows derivations such as "a: write f \"A\" | v = 1;" by their names, each with its program and what else is in its set.
func recipeFor(body string, drvs ...string) string {
	src := "let "
	for _, drv := range drvs {
		head, more, _ := strings.Cut(drv, " | ")
		name, program, _ := strings.Cut(head, ": ")
		src += name + " = derive { name = " + impl.ShowText(name) + "; builder = " + programText(program) + "; " + more + " }; "
	}
	return src + "in " + body
}

func drvIn(src, name string) impl.Drv {
	for _, d := range impl.Eval(src, nil, 50000).Drvs {
		if d.Name == name {
			return d
		}
	}
	panic(name + " is not in " + src)
}

func outIn(src, name, output string) string { return impl.OutPath(drvIn(src, name), output) }

// bareOf are the names alone, without their sums: "a.drv b.drv".
func bareOf(addresses []string) string {
	bare := []string{}
	for _, address := range addresses {
		_, name, _ := strings.Cut(address, "-")
		bare = append(bare, name)
	}
	return strings.Join(bare, " ")
}

func sortedBare(addresses []string) string {
	words := strings.Fields(bareOf(addresses))
	slices.Sort(words)
	return strings.Join(words, " ")
}

// shownRealised is "Code Which: Made / Paths / store / Log", Paths and store by their names.
func shownRealised(r impl.Realised) string {
	return fmt.Sprintf("%d %s: %s / %s / %s / %s", r.Code, bareOf([]string{r.Which}), bareOf(r.Made), sortedBare(r.Paths), sortedBare(plainPathsIn(r.World.Store)), strings.Join(r.Log, " "))
}

func realise(t *testing.T, w impl.World, src string, lib []impl.File, budget, steps int64) impl.Realised {
	t.Helper()
	got, plain := impl.Realise(w, src, lib, budget, steps), plainRealise(w, src, lib, budget, steps)
	if !same(got, plain) {
		t.Errorf("%s\nin %.900v:\n%.1500v\nnot, in plain words,\n%.1500v", src, w, got, plain)
	}
	return got
}

func realiseIs(t *testing.T, w impl.World, src string, want string) impl.Realised {
	t.Helper()
	got := realise(t, w, src, nil, 5000, 100)
	if shown := shownRealised(got); shown != want {
		t.Errorf("%s:\n%s\nnot\n%s", src, shown, want)
	}
	realiseHolds(t, w, src, got)
	return got
}

// realiseHolds: what was there ahead still is, and what was built is not built again.
func realiseHolds(t *testing.T, w impl.World, src string, r impl.Realised) {
	t.Helper()
	if !impl.WorldOk(r.World) || !same(r.World.Profiles, w.Profiles) || !same(r.World.Nexts, w.Nexts) {
		t.Errorf("%s: another world: %v", src, r.World)
	}
	for _, item := range w.Store {
		if at := plainItemAt(r.World.Store, item.Path); at < 0 || !same(r.World.Store[at], item) {
			t.Errorf("%s: %q was there, and is no more as it was", src, item.Path)
		}
	}
	if r.Code != 0 {
		if len(r.Made) > 0 || len(r.Paths) > 0 {
			t.Errorf("%s: %v, %v for a Code", src, r.Made, r.Paths)
		}
		return
	}
	if len(r.World.Store) < len(w.Store)+len(r.Made) {
		t.Errorf("%s: %d were made, %d are there", src, len(r.Made), len(r.World.Store))
	}
	for _, path := range r.Paths {
		if plainItemAt(r.World.Store, path) < 0 {
			t.Errorf("%s: %q is not there", src, path)
		}
	}
	again := impl.Realise(r.World, src, nil, 50000, 0)
	if again.Code != 0 || len(again.Made) > 0 || len(again.Log) > 0 || again.Which != "" || !same(again.Paths, r.Paths) || !same(again.World, r.World) {
		t.Errorf("%s: again: %s", src, shownRealised(again))
	}
}

func TestCodesOfSessions(t *testing.T) {
	codes := []int64{impl.RealArgs, impl.RealBuild, impl.RealStore, impl.RealWrap, impl.RealInstall, impl.RealSolve}
	if !same(codes, []int64{100, 200, 300, 400, 500, 600}) {
		t.Error(codes)
	}
}

// wrongWorlds have each one fault.
func wrongWorlds() []impl.World {
	worlds := []impl.World{
		{Store: []impl.Item{{}}}, {Store: manyItems(301)}, {Store: append(storeOf("b:"), storeOf("a:")...)}, {Profiles: []impl.Profile{{Name: ".me"}}}, {Profiles: manyProfiles(21)},
		worldOf("; me:1 1a"), worldOf("a: ; me:0 1b"), {Pending: manyPendings(21)}, {Pending: []impl.Pending{{}}}, {Nexts: manyNexts(21)}, {Nexts: []impl.Next{{}}},
	}
	w := worldOf("a: b:a ; me:1 1a ; d: ; me=a")
	w.Store[1].Refs = nil
	return append(worlds, w)
}

func TestRealiseInWorldsThatCantBe(t *testing.T) {
	for _, w := range wrongWorlds() {
		for _, src := range []string{"1", "", "a", recipeFor("a.out", "a: write f \"A\""), strings.Repeat(" ", 20001)} {
			for _, steps := range []int64{-1, 0, 50, 10001} {
				if got := realise(t, w, src, nil, 500, steps); !same(got, impl.Realised{Code: 100}) {
					t.Errorf("%.300v: %s", w, shownRealised(got))
				}
			}
		}
	}
}

func TestStepsOfRealise(t *testing.T) {
	w := worldOf("a: ; me:1 1a ; b: ; me=a")
	for _, steps := range []int64{math.MinInt64, -2, -1, 10001, 10002, math.MaxInt64} {
		for _, src := range []string{"1", "(", recipeFor("a.out", "a: "), recipeFor("a.out", "a: write f \"A\"")} {
			if got := realise(t, w, src, nil, 500, steps); !same(got, impl.Realised{Code: 100}) {
				t.Errorf("%d steps: %s", steps, shownRealised(got))
			}
		}
	}
	// Each build has all the steps for itself.
	two := recipeFor("[a.out b.out]", "a: write f \"A\"; log \"a\"; log \"aa\"", "b: write f \"B\"; log \"b\"; log \"bb\"; log \"bbb\"")
	for steps, want := range map[int64]string{
		0:     "202 a.drv:  /  / a / ",
		1:     "202 a.drv:  /  / a / ",
		2:     "202 a.drv:  /  / a / a",
		3:     "202 b.drv:  /  / a a / b bb",
		4:     "0 : a.drv b.drv / a b / a a b / a aa b bb bbb",
		5:     "0 : a.drv b.drv / a b / a a b / a aa b bb bbb",
		9999:  "0 : a.drv b.drv / a b / a a b / a aa b bb bbb",
		10000: "0 : a.drv b.drv / a b / a a b / a aa b bb bbb",
	} {
		got := realise(t, w, two, nil, 500, steps)
		if shown := shownRealised(got); shown != want {
			t.Errorf("%d steps: %s, not %s", steps, shown, want)
		}
		realiseHolds(t, w, two, got)
	}
	for _, src := range []string{"1", recipeFor("a.out", "a: ")} {
		if got := realise(t, w, src, nil, 500, 0); got.Code != 0 {
			t.Errorf("%s, no steps: %s", src, shownRealised(got))
		}
	}
	long := recipeFor("a.out", "a: "+strings.Repeat("; ", 3999))
	if got := realise(t, w, long, nil, 500, 3999); got.Code != 0 {
		t.Error("3999 lines:", got.Code)
	}
	if got := realise(t, w, long, nil, 500, 3998); got.Code != 202 {
		t.Error("3999 lines, 3998 steps:", got.Code)
	}
}

func TestRealiseWithEachCodeOfEval(t *testing.T) {
	w := worldOf("a: b:a ; me:1 1a ; d:a ; me=b")
	lib := []impl.File{{Name: "bad", Text: "("}, {Name: "good", Text: "7"}}
	a := "let a = derive { name = \"a\"; builder = \"write f \\\"A\\\"\"; }; in "
	for code, src := range map[int64]string{
		3: a + "seq a.out (let x = x; in x)", 4: a + "seq a.out (1 + true)", 5: a + "[a.out q]", 6: a + "seq a.out (assert false; 1)", 7: a + "a.q", 8: a + "[a.out (head [])]", 9: a + "[a.out (9007199254740992 + 1)]",
		10: a + "[a.out (1 / 0)]", 11: a + "[a.out (throw \"no\")]", 12: a + "[a.out (import \"bad\")]", 13: a + "a.out)", 14: a + "seq a.out (derive {})",
	} {
		if got := realise(t, w, src, lib, 5000, 100); !same(got, impl.Realised{Code: code, World: w}) {
			t.Errorf("%s: %s, not %d", src, shownRealised(got), code)
		}
	}
	for budget, code := range map[int64]int64{-1: 1, 0: 2, 2: 2, 3: 2, 50001: 1, math.MaxInt64: 1, math.MinInt64: 1} {
		if got := realise(t, w, a+"a.out", lib, budget, 100); !same(got, impl.Realised{Code: code, World: w}) {
			t.Errorf("a budget of %d: %s", budget, shownRealised(got))
		}
	}
	// The budget is that of Eval, to the last step.
	cost := impl.Eval(a+"a.out", lib, 5000).Steps
	if got := realise(t, w, a+"a.out", lib, cost-1, 100); !same(got, impl.Realised{Code: 2, World: w}) {
		t.Error(shownRealised(got))
	}
	for _, budget := range []int64{cost, 50000} {
		if got := realise(t, w, a+"a.out", lib, budget, 100); shownRealised(got) != "0 : a.drv / a / a a b / " {
			t.Error(shownRealised(got))
		}
	}
	slices.Reverse(lib)
	if got := realise(t, w, "1", lib, 5000, 100); !same(got, impl.Realised{Code: 1, World: w}) {
		t.Error(shownRealised(got))
	}
	lib = nil
	for i := range 101 {
		lib = append(lib, impl.File{Name: fmt.Sprintf("f%03d", i), Text: a + "a"})
	}
	if got := realise(t, w, "1", lib, 5000, 100); !same(got, impl.Realised{Code: 1, World: w}) {
		t.Error(shownRealised(got))
	}
	if got := realise(t, w, "(import \"f099\").out", lib[:100], 5000, 100); shownRealised(got) != "0 : a.drv / a / a a b / " {
		t.Error(shownRealised(got))
	}
}

func TestRealise(t *testing.T) {
	a, b, c := "a: write f \"A\"; log \"a\"", "b: copy @{a.out} d; write g \"{a.out}\"; log \"b\"", "c: write h \"C\"; log \"c\" | d = b.out;"
	ab := []string{a, b}
	for _, row := range []struct{ body, want string }{
		// No derivation is looked at.
		{"1", "0 :  /  /  / "}, {"[]", "0 :  /  /  / "}, {"\"a\"", "0 :  /  /  / "}, {"x: a.out", "0 :  /  /  / "}, {"(x: 1) a.out", "0 :  /  /  / "}, {"length [a.out b.out]", "0 :  /  /  / "}, {"true || a.q", "0 :  /  /  / "},
		// What is looked at is built, whether it is shown or not.
		{"a.out", "0 : a.drv / a / a / a"}, {"[a.out]", "0 : a.drv / a / a / a"}, {"{x = [{y = a.out; }]; }", "0 : a.drv / a / a / a"}, {"a", "0 : a.drv / a / a / a"}, {"[a a.out a.drv]", "0 : a.drv / a / a / a"},
		{"size a.out", "0 : a.drv /  / a / a"}, {"seq a 1", "0 : a.drv /  / a / a"}, {"a.name", "0 : a.drv /  / a / a"}, {"a.drv", "0 : a.drv /  / a / a"}, {"a.out == b.out", "0 : a.drv b.drv /  / a b / a b"},
		{"part a.out 0 0", "0 : a.drv / a / a / a"}, {"join \"\" [a.out a.drv]", "0 : a.drv / a / a / a"}, {"names a", "0 : a.drv /  / a / a"},
		// What is used is built ahead, and shown only where it is in the answer.
		{"b.out", "0 : a.drv b.drv / b / a b / a b"}, {"[b.out a.out]", "0 : a.drv b.drv / a b / a b / a b"}, {"a.out + b.out", "0 : a.drv b.drv / a b / a b / a b"}, {"b.builder", "0 : a.drv b.drv / a / a b / a b"}, {"b", "0 : a.drv b.drv / a b / a b / a b"},
		// The same again is the same.
		{"[a.out (derive { name = \"a\"; builder = a.builder; }).out]", "0 : a.drv / a / a / a"},
		{"[a.out (derive { name = \"a\"; builder = \"\"; }).out]", "0 : a.drv a.drv / a a / a a / a"},
	} {
		realiseIs(t, impl.World{}, recipeFor(row.body, ab...), row.want)
	}
	r := realiseIs(t, impl.World{}, recipeFor("c.out", a, b, c), "0 : a.drv b.drv c.drv / c / a b c / a b c")
	src := recipeFor("c.out", a, b, c)
	for _, row := range [][2]string{{"a", "f=A"}, {"b", "d/ d/f=A g=" + outIn(src, "a", "out")}, {"c", "h=C"}} {
		item := r.World.Store[plainItemAt(r.World.Store, outIn(src, row[0], "out"))]
		if item.From != impl.DrvAddress(drvIn(src, row[0])) || shownEntries(item.Tree) != row[1] {
			t.Errorf("%s: %v", row[0], item)
		}
	}
	if closure := impl.Closure(r.World.Store, r.Paths); sortedBare(closure) != "c" {
		t.Error("c refers to what it declared and did not write:", closure)
	}
}

func TestRealiseOfOutputs(t *testing.T) {
	two := "a: mkdir bin; write bin/run \"go\"; mkdir lib; write lib/so \"so\"; into lib lib; into out bin; log \"a\" | outputs = [\"out\" \"lib\"];"
	realiseIs(t, impl.World{}, recipeFor("a.out", two), "0 : a.drv / a / a a-lib / a")
	realiseIs(t, impl.World{}, recipeFor("a.lib", two), "0 : a.drv / a-lib / a a-lib / a")
	realiseIs(t, impl.World{}, recipeFor("a", two), "0 : a.drv / a a-lib / a a-lib / a")
	for _, row := range [][2]string{{"copy @{a.lib} d", "0 : a.drv b.drv / b / a a-lib b / a"}, {"copy @{a.lib}/so d", "0 : a.drv b.drv / b / a a-lib b / a"}, {"need @{a.out}/run; need @{a.lib}/so", "0 : a.drv b.drv / b / a a-lib b / a"}, {"need @{a.out}/so", "203 b.drv:  /  / a a-lib / "}} {
		realiseIs(t, impl.World{}, recipeFor("b.out", two, "b: "+row[0]), row[1])
	}
	// An output that is not used is hidden, though it is there.
	src := recipeFor("a.out", two)
	out, lib := outIn(src, "a", "out"), outIn(src, "a", "lib")
	for _, row := range [][2]string{
		{"need @" + lib + " | d = a.lib;", "0 : a.drv b.drv / b / a a-lib b / a"}, {"need @" + lib + " | d = a.out;", "209 b.drv:  /  / a a-lib / "}, {"need @" + out + " | d = a.out;", "0 : a.drv b.drv / b / a a-lib b / a"},
		{"need @" + out + " | d = a.lib;", "209 b.drv:  /  / a a-lib / "}, {"need @" + out + " | d = [a.lib a.out];", "0 : a.drv b.drv / b / a a-lib b / a"}, {"need @" + out + " | d = a.drv;", "209 b.drv:  /  / a a-lib / "},
	} {
		realiseIs(t, impl.World{}, recipeFor("b.out", two, "b: "+row[0]), row[1])
	}
	// What the input needs itself is not declared by that.
	three := recipeFor("c.out", "a: write f \"A\"", "b: copy @{a.out} d; write g \"{a.out}\"", "c: need @{b.out}/d/f; need @"+outIn(recipeFor("a.out", "a: write f \"A\""), "a", "out"))
	realiseIs(t, impl.World{}, three, "209 c.drv:  /  / a b / ")
	five := recipeFor("a", "a: mkdir d; into a d; into b d; into c d; into d d; log \"a\" | outputs = [\"out\" \"d\" \"c\" \"b\" \"a\"];")
	r := realiseIs(t, impl.World{}, five, "0 : a.drv / a a-a a-b a-c a-d / a a-a a-b a-c a-d / a")
	if !slices.IsSorted(r.Paths) {
		t.Error(r.Paths)
	}
}

// withItem has one more of that path, tree and From.
func withItem(w impl.World, path, tree, from string) impl.World {
	w.Store = plainStore(append(slices.Clone(w.Store), impl.Item{Path: path, Tree: entriesOf(tree), From: from})...)
	return w
}

func TestRealiseOfSources(t *testing.T) {
	a := "a: write f \"A\""
	drv := impl.DrvAddress(drvIn(recipeFor("a.drv", a), "a"))
	there := withItem(worldOf("a:"), drv, "s=S", "")
	for _, row := range []struct {
		w    impl.World
		body string
		more []string
		want string
	}{
		// In the Context.
		{impl.World{}, "a.drv", nil, "0 : a.drv /  / a / "},
		{there, "a.drv", nil, "0 : a.drv / a.drv / a a a.drv / "},
		{there, "[a.drv a.out]", nil, "0 : a.drv / a a.drv / a a a.drv / "},
		{there, "a", nil, "0 : a.drv / a a.drv / a a a.drv / "},
		{there, "a.out", nil, "0 : a.drv / a / a a a.drv / "},
		// As a source of another one.
		{impl.World{}, "b.out", []string{"b: log \"b\" | d = a.drv;"}, "0 : a.drv b.drv / b / a b / b"},
		{impl.World{}, "b.out", []string{"b: need @{a.drv}"}, "209 b.drv:  /  / a / "},
		{there, "b.out", []string{"b: need @{a.drv}; copy @{a.drv}/s s"}, "0 : a.drv b.drv / b / a a a.drv b / "},
		{there, "b.out", []string{"b: need @{a.drv}/f"}, "203 b.drv:  /  / a a a.drv / "},
		{there, "b.out", []string{"b: need @" + drv}, "209 b.drv:  /  / a a.drv / "},
		{there, "b.out", []string{"b: copy @{a.drv} d; copy @{a.out} d"}, "0 : a.drv b.drv / b / a a a.drv b / "},
		{there, "b.out", []string{"b: need @" + pathAt("a")}, "209 b.drv:  /  / a a.drv / "},
	} {
		realiseIs(t, row.w, recipeFor(row.body, append([]string{a}, row.more...)...), row.want)
	}
}

// The trees are those of the store, whatever would have been built.
func TestRealiseLooksAtWhatIsThere(t *testing.T) {
	src := recipeFor("b.out", "a: write f \"A\"; log \"a\"", "b: join g @{a.out}/f; log \"b\"")
	w := withItem(impl.World{}, outIn(src, "a", "out"), "f=other", pathAt("9.drv"))
	r := realiseIs(t, w, src, "0 : b.drv / b / a b / b")
	if item := r.World.Store[plainItemAt(r.World.Store, r.Paths[0])]; shownEntries(item.Tree) != "g=other" {
		t.Error(item)
	}
	// b is there and a is not: a is built all the same.
	w = withItem(impl.World{}, outIn(src, "b", "out"), "g=here", "")
	realiseIs(t, w, src, "0 : a.drv / b / a b / a")
	w = withItem(w, outIn(src, "a", "out"), "f=here", "")
	realiseIs(t, w, src, "0 :  / b / a b / ")
}

func TestRealiseOfWhatIsThereInPart(t *testing.T) {
	src := recipeFor("a", "a: write x \"X\"; write y \"Y\"; mkdir z; into lib x; into man y; into out z; log \"a\" | outputs = [\"lib\" \"man\" \"out\"];")
	lib, man, out := outIn(src, "a", "lib"), outIn(src, "a", "man"), outIn(src, "a", "out")
	drv, from := impl.DrvAddress(drvIn(src, "a")), pathAt("9.drv")
	for _, row := range []struct{ trees, want string }{
		{"", "0 : a.drv / a a-lib a-man / a a-lib a-man / a"},
		// Some of them with the same trees: built again, and what is there stays, with its From.
		{"lib x=X", "0 : a.drv / a a-lib a-man / a a-lib a-man / a"}, {"man y=Y", "0 : a.drv / a a-lib a-man / a a-lib a-man / a"}, {"out", "0 : a.drv / a a-lib a-man / a a-lib a-man / a"}, {"lib x=X, man y=Y", "0 : a.drv / a a-lib a-man / a a-lib a-man / a"}, {"lib x=X, out", "0 : a.drv / a a-lib a-man / a a-lib a-man / a"},
		// All of them, whatever trees they have.
		{"lib x=X, man y=Y, out", "0 :  / a a-lib a-man / a a-lib a-man / "}, {"lib q=Q, man q=Q, out q=Q", "0 :  / a a-lib a-man / a a-lib a-man / "},
		// One with another tree: the Outs ahead of it are there then.
		{"lib x=Q", "302 a.drv:  /  / a-lib / a"}, {"man x=Q", "302 a.drv:  /  / a-lib a-man / a"}, {"out x=Q", "302 a.drv:  /  / a a-lib a-man / a"}, {"lib x=X, out x=Q", "302 a.drv:  /  / a a-lib a-man / a"}, {"lib x=X, man y=Q", "302 a.drv:  /  / a-lib a-man / a"},
		{"lib x*X", "302 a.drv:  /  / a-lib / a"}, {"lib", "302 a.drv:  /  / a-lib / a"},
	} {
		w := impl.World{}
		for part := range strings.SplitSeq(row.trees, ", ") {
			name, tree, _ := strings.Cut(part, " ")
			if path := map[string]string{"lib": lib, "man": man, "out": out}[name]; path != "" {
				w = withItem(w, path, tree, from)
			}
		}
		r := realiseIs(t, w, src, row.want)
		for _, item := range r.World.Store {
			was := plainItemAt(w.Store, item.Path) >= 0
			if item.From != map[bool]string{true: from, false: drv}[was] {
				t.Errorf("%s: %v", row.trees, item)
			}
		}
	}
}

// Each Code of Build, in the first derivation and in a later one; what was built ahead of it stays.
func TestRealiseWithEachCodeOfBuild(t *testing.T) {
	for code, program := range map[int64]string{
		203: "log \"one\"; need q; log \"two\"", 204: "log \"one\"; nonsense", 205: "log \"one\"; env f KEY", 206: "log \"one\"; mkdir d; join f d", 207: "log \"one\"; write x \"1\"; write y \"2\"; same x y",
		208: "log \"one\"; fail \"no\"", 209: "log \"one\"; need @" + pathAt("a"), 210: "log \"one\"; write d/f \"x\"", 211: "log \"one\"; write f \"x\" | fixed = \"0000000000000\";",
	} {
		log := "one"
		if code == 208 {
			log = "one no"
		}
		w := worldOf("a: b:a ; me:1 1a ; d:a ; me=b")
		r := realiseIs(t, w, recipeFor("[bad.out c.out]", "bad: "+program, "c: log \"c\""), fmt.Sprintf("%d bad.drv:  /  / a b / %s", code, log))
		if !same(r.World, w) {
			t.Errorf("%s: another world: %v", program, r.World)
		}
		first, last := "c: write f \"C\"; log \"c\"", "z: log \"z\""
		r = realiseIs(t, w, recipeFor("[c.out bad.out z.out]", first, "bad: "+program, last), fmt.Sprintf("%d bad.drv:  /  / a b c / %s", code, log))
		if want := plainRealise(w, recipeFor("c.out", first), nil, 5000, 100); !same(r.World, want.World) {
			t.Errorf("%s: another world: %v", program, r.World)
		}
		// What it uses was built ahead, and what uses it is not.
		realiseIs(t, w, recipeFor("z.out", first, "bad: "+program+map[bool]string{true: " d = c.out;", false: " | d = c.out;"}[strings.Contains(program, " | ")], "z: need @{bad.out}"), fmt.Sprintf("%d bad.drv:  /  / a b c / %s", code, log))
		realiseIs(t, w, recipeFor("[c.out z.out]", first, "bad: "+program, last), "0 : c.drv z.drv / c z / a b c z / c z")
	}
	name := recipeFor("a", "a: write f \"x\"; log \"one\" | outputs = [\"lib\" \"out\"];")
	realiseIs(t, impl.World{}, name, "205 a.drv:  /  /  / one")
	into := recipeFor("a.out", "a: write f \"x\"; into out f; cut f; log \"one\"")
	realiseIs(t, impl.World{}, into, "203 a.drv:  /  /  / one")
	fixed := recipeFor("a.out", "a: write f \"x\"; log \"one\" | fixed = \""+impl.TreeSum(entriesOf("f=x"))+"\";")
	realiseIs(t, impl.World{}, fixed, "0 : a.drv / a / a / one")
}

// Two fixed derivations of one name have one address: the first that was derived is built.
func TestRealiseOfFixed(t *testing.T) {
	sum := " | fixed = \"" + impl.TreeSum(entriesOf("f=x")) + "\";"
	one, other := "one: write f \"x\"; log \"one\""+sum, "other: write g \"x\"; move g f; log \"other\""+sum
	both := strings.ReplaceAll(recipeFor("BODY", one, other, "b: copy @{other.out} d; log \"b\""), "name = \"other\"", "name = \"one\"")
	for body, want := range map[string]string{
		"[one.out other.out]": "0 : one.drv / one / one / one", "[other.out one.out]": "0 : one.drv / one / one / other", "[one.out b.out]": "0 : one.drv b.drv / b one / b one / one b", "b.out": "0 : one.drv b.drv / b / b one / other b",
	} {
		realiseIs(t, impl.World{}, strings.ReplaceAll(both, "BODY", body), want)
	}
}

func TestRealiseWithEachCodeOfTheStore(t *testing.T) {
	one := recipeFor("a.out", "a: write f \"A\"; log \"a\"")
	two := recipeFor("[a.out b.out]", "a: write f \"A\"; log \"a\"", "b: write f \"B\"; log \"b\"")
	a, b := outIn(two, "a", "out"), outIn(two, "b", "out")
	// An item waits for what is not there: it can't come any more.
	waits := withItem(impl.World{}, pathAt("g"), "f>"+a, "")
	realiseIs(t, waits, one, "303 a.drv:  /  / g / a")
	realiseIs(t, waits, two, "303 a.drv:  /  / g / a")
	waits = withItem(impl.World{}, pathAt("g"), "f>"+b[:13], "")
	realiseIs(t, waits, two, "303 b.drv:  /  / a g / b")
	realiseIs(t, waits, one, "0 : a.drv / a / a g / a")
	// A store that is full, or will be.
	for items, codes := range map[int][2]int64{298: {0, 0}, 299: {0, 304}, 300: {304, 304}} {
		w := impl.World{Store: manyItems(items)}
		for number, src := range []string{one, two} {
			r := realise(t, w, src, nil, 5000, 100)
			if r.Code != codes[number] || len(r.World.Store) != min(300, items+number+1) {
				t.Errorf("%d items and %d more: %d, %d items", items, number+1, r.Code, len(r.World.Store))
			}
		}
	}
	full := impl.World{Store: manyItems(299)}
	if r := realise(t, full, recipeFor("a", "a: mkdir d; into lib d; log \"a\" | outputs = [\"lib\" \"out\"];"), nil, 5000, 100); r.Code != 304 || len(r.World.Store) != 300 || len(r.Made) != 0 || !same(r.Log, []string{"a"}) {
		t.Error(shownRealised(r))
	}
	full = withItem(full, a, "f=A", "")
	realise(t, full, one, nil, 5000, 100)
	if r := realise(t, full, one, nil, 5000, 100); r.Code != 0 || !same(r.World, full) || !same(r.Paths, []string{a}) {
		t.Error("what is there needs no room:", shownRealised(r))
	}
	// An output whose address would be too long has none.
	for size, want := range map[int]int64{58: 0, 59: 305, 60: 305} {
		output := strings.Repeat("o", size)
		src := recipeFor("a", "a: mkdir d; into "+output+" d; log \"a\" | outputs = [\"lib\" \""+output+"\" \"out\"];")
		src = strings.Replace(src, "mkdir d", "mkdir d\\ninto lib d", 1)
		r := realise(t, impl.World{}, src, nil, 5000, 100)
		if r.Code != want || want > 0 && (len(r.World.Store) != 1 || bareOf([]string{r.Which}) != "a.drv" || !same(r.Log, []string{"a"})) {
			t.Errorf("%d: %s", size, shownRealised(r))
		}
	}
}

func TestRealiseWithPendings(t *testing.T) {
	src := recipeFor("a", "a: write x \"X\"; mkdir z; into lib x; into out z; log \"a\" | outputs = [\"lib\" \"out\"];")
	lib, out := outIn(src, "a", "lib"), outIn(src, "a", "out")
	for n, want := range map[int]string{0: "0 : a.drv / a a-lib / a a-lib / a", 19: "0 : a.drv / a a-lib / a a-lib / a", 20: "304 a.drv:  /  /  / a"} {
		w := impl.World{Pending: manyPendings(n), Nexts: manyNexts(20)}
		if r := realiseIs(t, w, src, want); !same(r.World.Pending, w.Pending) {
			t.Error(n, r.World.Pending)
		}
	}
	full := impl.World{Pending: manyPendings(20)}
	realiseIs(t, withItem(full, lib, "x=X", ""), src, "304 a.drv:  /  / a-lib / a")
	realiseIs(t, withItem(full, out, "", ""), src, "304 a.drv:  /  / a / a")
	realiseIs(t, withItem(full, lib, "x=Q", ""), src, "302 a.drv:  /  / a-lib / a")
	realiseIs(t, withItem(withItem(full, lib, "x=X", ""), out, "", ""), src, "0 :  / a a-lib / a a-lib / ")
	realiseIs(t, withItem(full, pathAt("g"), "f>"+lib, ""), src, "303 a.drv:  /  / g / a")
	realiseIs(t, full, "1", "0 :  /  /  / ")
	realiseIs(t, full, recipeFor("a.out", "a: need q"), "203 a.drv:  /  /  / ")
	// What has been begun of that path goes with what is finished; all else stays.
	begun := impl.World{Pending: []impl.Pending{{Path: lib, Tree: entriesOf("x=Q")}, {Path: pathAt("b")}, {Path: out}, {Path: lib}, {Path: pathAt("c"), Tree: entriesOf("f>" + lib)}}}
	r := realiseIs(t, begun, src, "0 : a.drv / a a-lib / a a-lib / a")
	if !same(r.World.Pending, []impl.Pending{begun.Pending[1], begun.Pending[4]}) || shownEntries(r.World.Store[plainItemAt(r.World.Store, lib)].Tree) != "x=X" {
		t.Error(r.World)
	}
	begun.Store = withItem(begun, out, "q=Q", "").Store
	r = realiseIs(t, begun, src, "302 a.drv:  /  / a a-lib / a")
	if !same(r.World.Pending, []impl.Pending{begun.Pending[1], begun.Pending[2], begun.Pending[4]}) {
		t.Error(r.World.Pending)
	}
}

func TestLogsOfSeveralBuilds(t *testing.T) {
	lines := func(n int, text string) string {
		return strings.TrimSuffix(strings.Repeat("log \""+text+"\"; ", n), "; ")
	}
	src := recipeFor("[a.out b.out c.out d.out]", "a: "+lines(201, "a"), "b: ", "c: "+lines(3, "c")+"; when q; log \"no\"", "d: "+lines(200, "d"))
	r := realise(t, impl.World{}, src, nil, 5000, 1000)
	want := slices.Concat(slices.Repeat([]string{"a"}, 200), slices.Repeat([]string{"c"}, 3), slices.Repeat([]string{"d"}, 200))
	if r.Code != 0 || !same(r.Log, want) || bareOf(r.Made) != "a.drv b.drv c.drv d.drv" {
		t.Error(shownRealised(r))
	}
	src = recipeFor("[a.out b.out]", "a: "+lines(2, "a"), "b: "+lines(201, "b")+"; fail \"no\"")
	if r = realise(t, impl.World{}, src, nil, 5000, 1000); r.Code != 208 || !same(r.Log, slices.Repeat([]string{"b"}, 200)) {
		t.Error(shownRealised(r))
	}
	realiseIs(t, impl.World{}, recipeFor("a.out", "a: log \"\"; log \"a b\"; log \"\"; log \"x\\\"y\""), "0 : a.drv / a / a /  a b  x\"y")
}

// What ended with a fault goes on where it ended, when the cause is gone.
func TestRealiseGoesOn(t *testing.T) {
	src := recipeFor("c.out", "a: write f \"A\"; log \"a\"", "b: copy @{a.out} d; log \"b\"; log \"bb\"", "c: copy @{b.out} d; log \"c\"")
	first := realise(t, impl.World{}, src, nil, 500, 2)
	if shownRealised(first) != "202 b.drv:  /  / a / b" {
		t.Error(shownRealised(first))
	}
	realiseIs(t, first.World, src, "0 : b.drv c.drv / c / a b c / b bb c")
	whole := realiseIs(t, impl.World{}, src, "0 : a.drv b.drv c.drv / c / a b c / a b bb c")
	if again := impl.Realise(first.World, src, nil, 500, 100); !same(again.World, whole.World) || !same(again.Paths, whole.Paths) {
		t.Error(again)
	}
	// What is gone is built again, and is the same.
	for _, item := range whole.World.Store {
		w := impl.World{Store: slices.DeleteFunc(slices.Clone(whole.World.Store), func(other impl.Item) bool { return other.Path == item.Path })}
		name := bareOf([]string{item.Path})
		if r := realise(t, w, src, nil, 500, 100); bareOf(r.Made) != name+".drv" || !same(r.World, whole.World) || !same(r.Paths, whole.Paths) {
			t.Errorf("without %s: %s", name, shownRealised(r))
		}
	}
}
