package tests

import (
	"fmt"
	"math"
	"slices"
	"strings"
	"testing"

	"loop.example/g00023/impl"
)

// treesOf makes "a f=x ; b d/ d/g>y" the world of a store of a and b with these trees.
func treesOf(row string) impl.World {
	items := []impl.Item{}
	for one := range strings.SplitSeq(row, ";") {
		name, tree, _ := strings.Cut(strings.TrimSpace(one), " ")
		if name != "" {
			items = append(items, impl.Item{Path: pathAt(name), Tree: entriesOf(tree)})
		}
	}
	return impl.World{Store: plainStore(items...)}
}

// wrapIs takes what it should be as "d/ f>a", the names of paths behind each > ; "none" where there is no tree.
func wrapIs(t *testing.T, w impl.World, paths []string, want string) {
	t.Helper()
	plain, plainOk := plainWrap(w, paths)
	got, ok := impl.Wrap(w, paths)
	if ok != plainOk || !same(got, plain) {
		t.Errorf("%.300q wrapped: %q %v, not %q", paths, shownEntries(got), ok, shownEntries(plain))
	}
	wanted := []impl.Entry{}
	for word := range strings.FieldsSeq(strings.TrimPrefix(want, "none")) {
		e := entryAt(word)
		if e.Kind == 3 {
			e.Data = pathAt(e.Data) + "/" + e.Path
		}
		wanted = append(wanted, e)
	}
	if ok != (want != "none") || !same(got, wanted) {
		t.Errorf("%.300q wrapped: %q %v, not %q", paths, shownEntries(got), ok, want)
	}
}

func TestWrap(t *testing.T) {
	for _, row := range []struct{ trees, paths, want string }{
		{"", "", ""}, {"a f=x", "", ""}, {"a", "a", ""}, {"a ; b", "a b a", ""},
		{"a f=x", "a", "f>a"}, {"a f*x", "a", "f>a"}, {"a f>x", "a", "f>a"}, {"a d/", "a", "d/"}, {"a d/ d/e/ d/e/f=x d/g>y h*z", "a", "d/ d/e/ d/e/f>a d/g>a h>a"}, {"a f=", "a", "f>a"},
		// Several, that have nothing in common, or directories alone.
		{"a f=x ; b g=x", "a b", "f>a g>b"}, {"a f=x ; b g=x", "b a", "f>a g>b"}, {"a g=x ; b f=x", "a b", "f>b g>a"}, {"a d/ d/f=x ; b d/ d/g=y", "a b", "d/ d/f>a d/g>b"}, {"a d/ ; b d/ d/e/ ; c d/ d/e/ d/e/f>x", "c b a", "d/ d/e/ d/e/f>c"},
		{"a d/ d/f=x ; b d-/ d-/f=x", "a b", "d/ d-/ d-/f>b d/f>a"}, {"a d/ ; b d/", "a b", "d/"},
		// The same twice, and what is the very same.
		{"a d/ d/f=x", "a a", "d/ d/f>a"}, {"a f=x ; b f=x", "a b", "f>a"}, {"a f=x ; b f=x", "b a", "f>b"}, {"a f>x ; b f>x", "b a", "f>b"}, {"a f*x ; b f*x", "a b b a", "f>a"}, {"a f=x g=y ; b g=y h=z ; c f=x h=z", "c b a", "f>c g>b h>c"},
		{"a d/ d/f=x ; b d/ d/f=x d/g=y", "b a", "d/ d/f>b d/g>b"}, {"a f= ; b f=", "a b", "f>a"},
		// Not the very same.
		{"a f=x ; b f=y", "a b", "none"}, {"a f=x ; b f*x", "a b", "none"}, {"a f=x ; b f>x", "a b", "none"}, {"a f>x ; b f>y", "a b", "none"}, {"a f/ ; b f=x", "a b", "none"}, {"a f=x ; b f/", "a b", "none"}, {"a f/ ; b f>x", "b a", "none"}, {"a f/ f/g=x ; b f=x", "a b", "none"},
		{"a d/ d/f=x ; b d/ d/f=y", "b a", "none"}, {"a f=x ; b f=x ; c f=y", "a b c", "none"}, {"a f=x ; b f=x ; c f=y", "a b", "f>a"}, {"a f=x ; b g=x ; c f=y", "a b c", "none"}, {"a f=x ; b f=", "a b", "none"}, {"a f=x g=y ; b f=x g=z", "a b", "none"},
		// Not there.
		{"", "a", "none"}, {"a f=x", "b", "none"}, {"a f=x", "a b", "none"}, {"a f=x", "b a", "none"}, {"a f=x", "aa", "none"}, {"aa f=x", "a", "none"}, {"a ; b f=x", "a b c", "none"},
	} {
		wrapIs(t, treesOf(row.trees), pathsAt(row.paths), row.want)
	}
	for _, path := range append(noAddresses(), pathAt("a")+"/f", "f") {
		wrapIs(t, treesOf("a f=x"), []string{path}, "none")
		wrapIs(t, treesOf("a f=x"), []string{pathAt("a"), path}, "none")
	}
	for _, w := range wrongWorlds() {
		wrapIs(t, w, nil, "none")
		wrapIs(t, w, pathsAt("a"), "none")
	}
	// What has been begun is not there.
	wrapIs(t, worldOf("a: ; me:1 1a ; b: ; me=b"), pathsAt("b"), "none")
	wrapIs(t, worldOf("a:b b: ; me:1 1a ; b: ; me=b"), pathsAt("a b"), "none")
	wrapIs(t, worldOf("a: b: ; me:1 1a ; b: ; me=b"), pathsAt("b a b"), "f>b")
}

func TestWrapAtLimits(t *testing.T) {
	w := treesOf("a f=x ; b g=y")
	paths := append(slices.Repeat(pathsAt("b a"), 1000), pathAt("a"))
	wrapIs(t, w, paths[:2000], "f>a g>b")
	wrapIs(t, w, paths, "none")
	wrapIs(t, w, paths[:1999], "f>a g>b")
	wrapIs(t, w, append(slices.Clone(paths[:1999]), pathAt("c")), "none")
	// A union of as many entries as a tree may have, and of one more.
	for more, isTree := range map[int]bool{199: true, 200: true, 201: false, 500: false} {
		a, b := manyEntries(300), []impl.Entry{}
		for i := range more {
			b = append(b, impl.Entry{Path: fmt.Sprintf("x%03d", i), Kind: []int64{1, 2}[i%2]})
		}
		w := impl.World{Store: plainStore(impl.Item{Path: pathAt("a"), Tree: a}, impl.Item{Path: pathAt("b"), Tree: b})}
		got, ok := impl.Wrap(w, pathsAt("a b a b"))
		if plain, plainOk := plainWrap(w, pathsAt("a b a b")); ok != isTree || plainOk != ok || !same(got, plain) || ok && len(got) != 300+more {
			t.Errorf("300 and %d entries: %v, %d", more, ok, len(got))
		}
		if got, ok := impl.Wrap(w, pathsAt("b")); !ok || len(got) != more {
			t.Errorf("%d entries: %v, %d", more, ok, len(got))
		}
	}
	// The longest address and the longest Path.
	long := strings.Repeat("x", 60)
	tree, path := []impl.Entry{}, long
	for len(tree) < 7 {
		tree = append(tree, impl.Entry{Path: path, Kind: 1})
		path += "/" + long
	}
	tree = append(tree, impl.Entry{Path: path, Kind: 3, Data: strings.Repeat("y", 20000)})
	w = impl.World{Store: plainStore(impl.Item{Path: wordAt("a") + "-" + long, Tree: tree})}
	got, ok := impl.Wrap(w, []string{wordAt("a") + "-" + long})
	tree[7].Data = wordAt("a") + "-" + long + "/" + path
	if !ok || !same(got, tree) {
		t.Error(ok, got)
	}
}

// Every two of all small trees, and three of some.
func TestWrapOfEverySmallTree(t *testing.T) {
	trees := [][]impl.Entry{}
	everyTree([]string{"a", "a/b", "c"}, nil, func(list []impl.Entry) {
		for _, data := range []string{"x", "z"} {
			list := slices.Clone(list)
			for i := range list {
				if list[i].Kind == 2 {
					list[i].Data = data
				}
			}
			if plainTreeOk(list) && !slices.ContainsFunc(trees, func(other []impl.Entry) bool { return slices.Equal(other, list) }) {
				trees = append(trees, list)
			}
		}
	})
	good := 0
	for i, a := range trees {
		for j, b := range trees {
			c := trees[(i*7+j*3)%len(trees)]
			w := impl.World{Store: plainStore(impl.Item{Path: pathAt("a"), Tree: a}, impl.Item{Path: pathAt("b"), Tree: b}, impl.Item{Path: pathAt("c"), Tree: c})}
			for _, row := range []string{"a b", "b a", "c a b", "a b c"} {
				paths := pathsAt(row)
				plain, plainOk := plainWrap(w, paths)
				got, ok := impl.Wrap(w, paths)
				if ok != plainOk || !same(got, plain) {
					t.Fatalf("%s of %q, %q, %q: %q %v", row, shownEntries(a), shownEntries(b), shownEntries(c), shownEntries(got), ok)
				}
				if ok {
					good++
					linksHold(t, w, got, paths)
				}
			}
		}
	}
	if len(trees) < 30 || good < 500 {
		t.Error(len(trees), good)
	}
}

// linksHold: a tree of directories and links, each to what is no directory in one of the paths; and nothing of these lacks.
func linksHold(t *testing.T, w impl.World, tree []impl.Entry, paths []string) {
	t.Helper()
	if !impl.TreeOk(tree) {
		t.Errorf("%q is no tree", shownEntries(tree))
	}
	for _, e := range tree {
		if e.Kind == impl.EntDir {
			continue
		}
		address, path, _ := strings.Cut(e.Data, "/")
		at := plainItemAt(w.Store, address)
		if e.Kind != impl.EntLink || path != e.Path || at < 0 || !slices.Contains(paths, address) {
			t.Errorf("%v is no link into %q", e, paths)
			continue
		}
		if found := plainFind(w.Store[at].Tree, path); found < 0 || w.Store[at].Tree[found].Kind == impl.EntDir {
			t.Errorf("%v leads nowhere", e)
		}
	}
	for _, path := range paths {
		for _, e := range w.Store[plainItemAt(w.Store, path)].Tree {
			found := plainFind(tree, e.Path)
			if found < 0 || (tree[found].Kind == impl.EntDir) != (e.Kind == impl.EntDir) {
				t.Errorf("%q of %q is not in %q", e.Path, path, shownEntries(tree))
			}
		}
	}
}

func install(t *testing.T, w impl.World, name, src string, lib []impl.File, budget, steps int64) impl.Installed {
	t.Helper()
	got, plain := impl.Install(w, name, src, lib, budget, steps), plainInstall(w, name, src, lib, budget, steps)
	if !same(got, plain) {
		t.Errorf("%s\ninstalled in %.900v:\n%.1500v\nnot, in plain words,\n%.1500v", src, w, got, plain)
	}
	return got
}

// standing is what stands behind a profile, by names.
func standing(t *testing.T, w impl.World, name string) string {
	t.Helper()
	got := impl.Needed(w, name)
	if plain := plainBehind(w, name); !same(got, plain) {
		t.Errorf("behind %q stand %q, not %q", name, got, plain)
	}
	return sortedBare(got)
}

// installed asks for all that is promised of what went well.
func installed(t *testing.T, w impl.World, name, src string) impl.Installed {
	t.Helper()
	i := install(t, w, name, src, nil, 5000, 100)
	if i.Code != 0 {
		t.Fatalf("%s: %d", src, i.Code)
	}
	installHolds(t, w, name, src, i)
	return i
}

func installHolds(t *testing.T, w impl.World, name, src string, i impl.Installed) {
	t.Helper()
	r := impl.Realise(w, src, nil, 5000, 100)
	if !impl.WorldOk(i.World) || !same(i.World, impl.RunWorld(r.World, i.Writes, math.MaxInt64)) || impl.Current(i.World.Profiles, name) != i.Path {
		t.Errorf("%s: %v", src, i)
	}
	tree := i.World.Store[plainItemAt(i.World.Store, i.Path)].Tree
	linksHold(t, i.World, tree, r.Paths)
	if i.Path != impl.Address("profile", name, impl.PackTree(tree)) {
		t.Errorf("%s: another path: %s", src, i.Path)
	}
	// It needs what it links into, with all that that needs, and nothing else; and all of it is there.
	linked := []string{i.Path}
	for _, e := range tree {
		address, _, _ := strings.Cut(e.Data, "/")
		linked = append(linked, address)
	}
	behind := impl.Needed(i.World, name)
	if !same(behind, plainClosure(i.World.Store, linked)) {
		t.Errorf("%s: %q are needed", src, behind)
	}
	// Collected, it is there whole, and leads to the same files.
	left := impl.RunWorld(i.World, impl.PlanCollect(i.World), math.MaxInt64)
	wholeStays(t, i.World, left, behind)
	if !same(impl.Needed(left, name), behind) || !same(left.Profiles, i.World.Profiles) {
		t.Errorf("%s: collected, another profile: %v", src, left.Profiles)
	}
	// The same again changes nothing more.
	if again := impl.Install(i.World, name, src, nil, 5000, 0); again.Code != 0 || again.Path != i.Path || !same(again.World, i.World) {
		t.Errorf("%s: again: %v", src, again)
	}
	rollbackHoldsFor(t, w, name, i)
}

func wholeStays(t *testing.T, before, behind impl.World, paths []string) {
	t.Helper()
	for _, path := range paths {
		was, is := plainItemAt(before.Store, path), plainItemAt(behind.Store, path)
		if is < 0 || !same(before.Store[was], behind.Store[is]) {
			t.Errorf("%q is not there as it was", path)
		}
	}
}

// rollbackHoldsFor: rolled back, a profile is what it was, with all that it needed; and collected then, it still is, and the new one too.
func rollbackHoldsFor(t *testing.T, w impl.World, name string, i impl.Installed) {
	t.Helper()
	was := impl.Current(w.Profiles, name)
	p := profileAt(i.World.Profiles, name)
	if was == "" || was == i.Path || p.Now != p.Gens[len(p.Gens)-1].N || p.Gens[len(p.Gens)-2].Path != was {
		return
	}
	behind := impl.Needed(i.World, name)
	back := impl.DoWrite(i.World, impl.Write{Kind: impl.WriteBack, Name: name})
	if impl.Current(back.Profiles, name) != was || !same(impl.Needed(back, name), impl.Needed(w, name)) {
		t.Errorf("rolled back, %s is %q, not %q", name, impl.Current(back.Profiles, name), was)
	}
	left := impl.RunWorld(back, impl.PlanCollect(back), math.MaxInt64)
	wholeStays(t, w, left, impl.Needed(w, name))
	wholeStays(t, i.World, left, behind)
	if !same(impl.Needed(left, name), impl.Needed(w, name)) {
		t.Errorf("rolled back and collected, %s is another", name)
	}
}

const (
	recipeA = "a: write f \"A\"; log \"a\""
	recipeB = "b: copy @{a.out} d; write g \"{a.out}\"; log \"b\""
	recipeC = "c: mkdir d; write d/h \"C\"; exec d/h; link d/l \"to\""
)

func TestInstall(t *testing.T) {
	for _, row := range []struct{ body, tree, needs string }{
		{"a.out", "f>a", "a me"}, {"b.out", "d/ d/f>b g>b", "a b me"}, {"[a.out b.out c.out]", "d/ d/f>b d/h>c d/l>c f>a g>b", "a b c me"}, {"c.out", "d/ d/h>c d/l>c", "c me"}, {"[c.out a.drv]", "d/ d/h>c d/l>c", "c me"},
		{"a", "f>a", "a me"}, {"b", "d/ d/f>b f>a g>b", "a b me"}, {"1", "", "me"}, {"[]", "", "me"}, {"seq a.out 1", "", "me"}, {"x: a.out", "", "me"},
	} {
		src := recipeFor(row.body, recipeA, recipeB, recipeC)
		i := installed(t, impl.World{}, "me", src)
		tree := i.World.Store[plainItemAt(i.World.Store, i.Path)].Tree
		shown := []string{}
		for _, e := range tree {
			if e.Kind == 3 {
				address, _, _ := strings.Cut(e.Data, "/")
				e.Data = bareOf([]string{address})
			}
			shown = append(shown, shownEntries([]impl.Entry{e}))
		}
		if got := strings.Join(shown, " "); got != row.tree || standing(t, i.World, "me") != row.needs || bareOf([]string{i.Path}) != "me" {
			t.Errorf("%s: %q, and %q, are %q, and %q", row.body, row.tree, row.needs, got, standing(t, i.World, "me"))
		}
		xs := []impl.Write{{Kind: 1, Path: i.Path, Tree: tree}, {Kind: 2, Path: i.Path}, {Kind: 3, Name: "me", Path: i.Path}, {Kind: 4, Name: "me"}}
		if !same(i.Writes, xs) || !same(i.World.Profiles, []impl.Profile{{Name: "me", Now: 1, Gens: []impl.Gen{{N: 1, Path: i.Path}}}}) {
			t.Errorf("%s: %v, %v", row.body, i.Writes, i.World.Profiles)
		}
	}
	// One after the other, and back.
	w, paths := worldOf("d: ; he:1 1d ; 1: ; he=d"), []string{}
	for _, body := range []string{"a.out", "b.out", "a.out", "[a.out c.out]", "c.out", "1"} {
		i := installed(t, w, "me", recipeFor(body, recipeA, recipeB, recipeC))
		w, paths = i.World, append(paths, i.Path)
	}
	if paths[0] != paths[2] || paths[0] == paths[1] || len(profileAt(w.Profiles, "me").Gens) != 6 || impl.Current(w.Profiles, "he") != pathAt("d") {
		t.Error(paths, w.Profiles)
	}
	for n := len(paths) - 1; n >= 0; n-- {
		if got := impl.Current(w.Profiles, "me"); got != paths[n] || !slices.Contains(impl.Needed(w, "me"), got) {
			t.Errorf("the profile is at %q, not at %q", got, paths[n])
		}
		w = impl.DoWrite(w, impl.Write{Kind: impl.WriteBack, Name: "me"})
	}
}

// Two profiles of one tree are two items, since the name is in their addresses.
func TestInstallOfTwoProfiles(t *testing.T) {
	src := recipeFor("a.out", recipeA)
	me := installed(t, impl.World{}, "me", src)
	you := installed(t, me.World, "you", src)
	if me.Path == you.Path || sortedBare(plainPathsIn(you.World.Store)) != "a me you" || standing(t, you.World, "me") != "a me" || standing(t, you.World, "you") != "a you" {
		t.Error(me.Path, you.Path, you.World)
	}
	long := strings.Repeat("x", 60)
	if i := installed(t, me.World, long, src); bareOf([]string{i.Path}) != long {
		t.Error(i.Path)
	}
}

func installCode(t *testing.T, w impl.World, name, src string, code int64, world impl.World) {
	t.Helper()
	if got := install(t, w, name, src, nil, 5000, 100); !same(got, impl.Installed{Code: code, World: world}) {
		t.Errorf("%s as %q: %d, %q, %v", src, name, got.Code, got.Path, got.Writes)
	}
}

func TestInstallWithEachCode(t *testing.T) {
	w := worldOf("a: b:a ; me:1 1a ; d:a ; he=b")
	one, two := recipeFor("a.out", recipeA), recipeFor("[a.out z.out]", recipeA, "z: need q")
	behind := impl.Realise(w, one, nil, 5000, 100).World
	for _, wrong := range wrongWorlds() {
		installCode(t, wrong, "me", one, 100, impl.World{})
		installCode(t, wrong, ".me", "(", 100, impl.World{})
	}
	for _, steps := range []int64{-1, 10001} {
		if got := install(t, w, "me", one, nil, 5000, steps); !same(got, impl.Installed{Code: 100}) {
			t.Error(got)
		}
	}
	if got := install(t, w, "me", one, nil, 50001, 100); !same(got, impl.Installed{Code: 1, World: w}) {
		t.Error(got)
	}
	if got := install(t, w, "me", one, nil, 1, 100); !same(got, impl.Installed{Code: 2, World: w}) {
		t.Error(got)
	}
	if got := install(t, w, "me", one, nil, 5000, 1); !same(got, impl.Installed{Code: 202, World: w}) {
		t.Error(got)
	}
	installCode(t, w, "me", "(", 13, w)
	installCode(t, w, "me", "q", 5, w)
	installCode(t, w, "me", two, 203, behind)
	full := w
	full.Pending = manyPendings(20)
	installCode(t, full, "me", one, 304, full)
	// Two trees that do not go together.
	apart := recipeFor("[a.out z.out]", recipeA, "z: write f \"Z\"")
	installCode(t, w, "me", apart, 400, impl.Realise(w, apart, nil, 5000, 100).World)
	installed(t, w, "me", recipeFor("[a.out z.out]", recipeA, "z: write f \"A\""))
	// A union of 500 entries, and of one more.
	for more, code := range map[string]int64{"need q1": 0, "mkdir q1/q2/q3": 400} {
		many := recipeFor("[a.out z.out]", "a: copy @{y.out} a1; copy @{y.out} a2", "z: copy @{y.out} z1; mkdir q1/q2; "+more, "y: "+directories(165))
		if got := install(t, w, "me", many, nil, 5000, 200); got.Code != code || len(got.World.Store) != 5+len(got.Writes)/4 {
			t.Errorf("%s: %d", more, got.Code)
		}
	}
	// What is no name is none at the end alone: all has been built by then.
	for _, name := range noNames() {
		installCode(t, w, name, one, 400, behind)
		installCode(t, w, name, "1", 400, w)
		installCode(t, w, name, two, 203, behind)
		installCode(t, w, name, "(", 13, w)
	}
}

// directories is a program that makes so many.
func directories(n int) string {
	lines := []string{}
	for i := range n {
		lines = append(lines, fmt.Sprint("mkdir d", i))
	}
	return strings.Join(lines, "; ")
}

func TestInstallThatCantBePlanned(t *testing.T) {
	one := recipeFor("a.out", recipeA)
	whole := installed(t, impl.World{}, "me", one)
	there := impl.World{Store: whole.World.Store}
	full := there
	// Nexts: as many as can be.
	full.Nexts = manyNexts(20)
	installCode(t, full, "me", one, 500, full)
	installCode(t, full, "me", "1", 500, full)
	if got := install(t, impl.World{Nexts: manyNexts(20)}, "me", one, nil, 5000, 100); got.Code != 500 || sortedBare(plainPathsIn(got.World.Store)) != "a" || len(got.Writes) != 0 || got.Path != "" {
		t.Error(got)
	}
	full.Nexts = manyNexts(19)
	installed(t, full, "me", one)
	// Pendings: what is there already needs none of them, a new tree does.
	full = there
	full.Pending = manyPendings(20)
	got := install(t, full, "me", one, nil, 5000, 100)
	if got.Code != 0 || !same(got.Writes, whole.Writes[2:]) || got.Path != whole.Path || !same(got.World.Profiles, whole.World.Profiles) {
		t.Error(got)
	}
	installCode(t, full, "you", one, 500, full)
	installCode(t, full, "me", "1", 500, full)
	full.Pending = manyPendings(19)
	installed(t, full, "you", one)
	// Another tree at that path, or something that waits for it.
	other := withItem(impl.Realise(impl.World{}, one, nil, 5000, 100).World, whole.Path, "x=y", "")
	installCode(t, other, "me", one, 500, other)
	waits := withItem(impl.Realise(impl.World{}, one, nil, 5000, 100).World, pathAt("g"), "x>"+whole.Path, "")
	installCode(t, waits, "me", one, 500, waits)
	// A full store.
	for items, code := range map[int]int64{298: 0, 299: 500, 300: 304} {
		w := impl.World{Store: manyItems(items)}
		if got := install(t, w, "me", one, nil, 5000, 100); got.Code != code || len(got.World.Store) != 300 {
			t.Errorf("%d items: %d", items, got.Code)
		}
	}
}

// A profile that can't be switched stays as it is, all else is done: the plan says nothing of it.
func TestInstallWhereNoProfileHasRoom(t *testing.T) {
	one, w := recipeFor("a.out", recipeA), impl.World{Store: storeOf("a: b: c: d: f: g:")}
	w.Profiles = manyProfiles(20)
	got := install(t, w, "me", one, nil, 5000, 100)
	if got.Code != 0 || len(got.Writes) != 4 || !same(got.World.Profiles, w.Profiles) || len(got.World.Store) != 8 || len(got.World.Nexts) != 0 {
		t.Error(got)
	}
	got = install(t, w, "p07", one, nil, 5000, 100)
	if got.Code != 0 || impl.Current(got.World.Profiles, "p07") != got.Path {
		t.Error(got)
	}
	w.Profiles = []impl.Profile{{Name: "me", Now: 7, Gens: manyGens(50)}}
	if got = install(t, w, "me", one, nil, 5000, 100); got.Code != 0 || !same(got.World.Profiles, w.Profiles) {
		t.Error(got)
	}
	w.Profiles[0].Gens = manyGens(49)
	if got = install(t, w, "me", one, nil, 5000, 100); got.Code != 0 || impl.Current(got.World.Profiles, "me") != got.Path {
		t.Error(got)
	}
}

// Whatever of an installation has been done, recovered and done anew it leads to the same.
func TestInstallCutOff(t *testing.T) {
	src := recipeFor("[b.out c.out]", recipeA, recipeB, recipeC)
	start := installed(t, worldOf("a: ; he:1 1a"), "me", recipeFor("a.out", recipeA)).World
	whole := installed(t, start, "me", src)
	built := impl.Realise(start, src, nil, 5000, 100).World
	for n := range len(whole.Writes) + 1 {
		w := impl.Recover(impl.RunWorld(built, whole.Writes, int64(n)))
		if now := impl.Current(w.Profiles, "me"); now != impl.Current(start.Profiles, "me") && now != whole.Path {
			t.Errorf("%d steps: %q", n, now)
		}
		if again := install(t, w, "me", src, nil, 5000, 0); !same(again.World, whole.World) || again.Path != whole.Path {
			t.Errorf("%d steps, and all of them anew: %v", n, again)
		}
	}
}

func TestNeeded(t *testing.T) {
	for _, row := range []struct{ world, name, want string }{
		{"", "me", ""}, {"a:", "me", ""}, {"a: ; me:1 1a", "me", "a"}, {"a: ; me:1 1a", "m", ""}, {"a: ; me:1 1a", "mee", ""}, {"a: ; me:1 1a", "", ""}, {"a: ; me:1 1a", ".me", ""},
		{"a: ; me:0 1a", "me", ""}, {"a: ; me:0", "me", ""}, {"a: b: ; me:1 1a 2b", "me", "a"}, {"a: b: ; me:2 1a 2b", "me", "b"}, {"a:b b:c c: d: ; me:1 1a", "me", "a b c"}, {"a:b b:a c: ; me:1 1a", "me", "a b"}, {"a:a b: ; me:1 1a", "me", "a"},
		{"a:b b: c:a ; he:1 1c | me:1 1a", "me", "a b"}, {"a:b b: c:a ; he:1 1c | me:1 1a", "he", "a b c"}, {"a:d ; me:1 1a ; d: ; me=a", "me", "a"}, {"a: b: ; me:1 1a ; c: ; me=b you=a", "you", ""}, {"a: b: ; me:1 1a ; c:b ; me=b", "me", "a"},
	} {
		if got := standing(t, worldOf(row.world), row.name); got != row.want {
			t.Errorf("%q: behind %q stand %q, not %q", row.world, row.name, got, row.want)
		}
	}
	for _, w := range wrongWorlds() {
		for _, name := range []string{"me", "p00", "", ".me"} {
			if got := standing(t, w, name); got != "" {
				t.Errorf("%.300v: %q", w, got)
			}
		}
	}
	wrong := worldOf("a: ; me:1 1a ; b:")
	wrong.Pending[0].Path = "b"
	if got := standing(t, wrong, "me"); got != "" {
		t.Error(got)
	}
}
