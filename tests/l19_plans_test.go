package tests

import (
	"fmt"
	"math"
	"math/rand"
	"runtime"
	"slices"
	"strings"
	"sync"
	"testing"
	"time"

	"loop.example/g00023/impl"
)

// outsOf makes "a: b:a" two Outs, of which the tree of the second holds the word of the first.
func outsOf(row string) []impl.Out {
	outs := []impl.Out{}
	for word := range strings.FieldsSeq(row) {
		name, letters, _ := strings.Cut(word, ":")
		outs = append(outs, impl.Out{Name: "out", Path: pathAt(name), Tree: treeAt(letters)})
	}
	return outs
}

func manyOuts(n int) []impl.Out {
	outs := []impl.Out{}
	for i := range n {
		outs = append(outs, impl.Out{Path: impl.Address("out", fmt.Sprint("o", i), nil), Tree: treeAt("")})
	}
	return outs
}

// addsOf are Begin and Finish of each.
func addsOf(outs []impl.Out) []impl.Write {
	xs := []impl.Write{}
	for _, out := range outs {
		xs = append(xs, impl.Write{Kind: 1, Path: out.Path, Tree: out.Tree}, impl.Write{Kind: 2, Path: out.Path})
	}
	return xs
}

func planAddIs(t *testing.T, w impl.World, path string, tree []impl.Entry, from string, want []impl.Write) {
	t.Helper()
	if plain := plainPlanAdd(w, path, tree, from); !same(plain, want) {
		t.Errorf("%.600v, %q added: plain words:\n%.600v\nnot\n%.600v", w, path, plain, want)
	}
	if got := impl.PlanAdd(w, path, tree, from); !same(got, want) {
		t.Errorf("%.600v, %q added:\n%.600v\nnot\n%.600v", w, path, got, want)
	}
}

func installIs(t *testing.T, w impl.World, name string, outs []impl.Out, want []impl.Write) {
	t.Helper()
	if plain := plainPlanInstall(w, name, outs); !same(plain, want) {
		t.Errorf("%.600v, %.300v installed: plain words:\n%.900v\nnot\n%.900v", w, outs, plain, want)
	}
	if got := impl.PlanInstall(w, name, outs); !same(got, want) {
		t.Errorf("%.600v, %.300v installed:\n%.900v\nnot\n%.900v", w, outs, got, want)
	}
}

func collectPlanIs(t *testing.T, w impl.World, want []impl.Write) {
	t.Helper()
	if plain := plainPlanCollect(w); !same(plain, want) {
		t.Errorf("%.600v collected: plain words:\n%.600v\nnot\n%.600v", w, plain, want)
	}
	if got := impl.PlanCollect(w); !same(got, want) {
		t.Errorf("%.600v collected:\n%.600v\nnot\n%.600v", w, got, want)
	}
}

func TestPlanAdd(t *testing.T) {
	const begun, none = "", "none"
	for _, r := range [][3]string{
		{"", "a:", begun}, {"", "a:a", begun}, {"", "a:bc", begun}, {"a:b b: ; me:1 1a ; c: ; me=c", "d:ac", begun},
		// There already, with the same Sum and with another one.
		{"a:", "a:", begun}, {"a:b b:", "a:b", begun}, {"a:", "a:b", none}, {"a:b", "a:", none},
		// What refers to what lacks: such a thing can come, but what lacks can't come behind it.
		{"", "a:b", begun}, {"a:b", "b:", none}, {"a:b b:", "b:", begun}, {"a:b", "bb:", none}, {"a:a", "aa:", none}, {"c:ab b:", "a:b", none},
		// What has been begun does not count for it.
		{"; ; a:", "a:", begun}, {"; ; a:b", "a:", begun}, {"; ; b:a", "a:", begun}, {"; ; a: a: a:", "a:b", begun}, {"; ; ; me=a", "a:", begun},
	} {
		w, out := worldOf(r[0]), outsOf(r[1])
		want := addsOf(out)
		if r[2] == none {
			want = nil
		}
		planAddIs(t, w, out[0].Path, out[0].Tree, "", want)
	}
	w := worldOf("a: ; ; b:")
	planAddIs(t, w, pathAt("c"), entriesOf(manyKinds), pathAt("c.drv"), []impl.Write{{Kind: 1, Path: pathAt("c"), Tree: entriesOf(manyKinds), From: pathAt("c.drv")}, {Kind: 2, Path: pathAt("c")}})
	planAddIs(t, w, pathAt("a"), treeAt(""), pathAt("c.drv"), []impl.Write{{Kind: 1, Path: pathAt("a"), Tree: treeAt(""), From: pathAt("c.drv")}, {Kind: 2, Path: pathAt("a")}})
	planAddIs(t, w, pathAt("c"), nil, "", []impl.Write{{Kind: 1, Path: pathAt("c")}, {Kind: 2, Path: pathAt("c")}})
}

func TestPlanAddOfWhatCantBe(t *testing.T) {
	for _, w := range []impl.World{{}, worldOf("a: ; me:1 1a ; b: ; me=b")} {
		for _, path := range noAddresses() {
			planAddIs(t, w, path, treeAt(""), "", nil)
			if path != "" {
				planAddIs(t, w, pathAt("c"), treeAt(""), path, nil)
				planAddIs(t, w, pathAt("a"), treeAt(""), path, nil)
			}
		}
		for _, tree := range [][]impl.Entry{{{}}, entriesOf("b=x a=x"), entriesOf("a/b=x"), manyEntries(501)} {
			planAddIs(t, w, pathAt("c"), tree, "", nil)
			planAddIs(t, w, pathAt("a"), tree, "", nil)
		}
	}
}

func TestPlanAddAtLimits(t *testing.T) {
	out := outsOf("a:")[0]
	for n, want := range map[int][]impl.Write{0: addsOf(outsOf("a:")), 19: addsOf(outsOf("a:")), 20: nil} {
		planAddIs(t, impl.World{Pending: manyPendings(n), Nexts: manyNexts(20)}, out.Path, out.Tree, "", want)
		planAddIs(t, impl.World{Store: storeOf("a:"), Pending: manyPendings(n)}, out.Path, out.Tree, "", want)
	}
	// Those of its own Path take room too.
	planAddIs(t, impl.World{Pending: slices.Repeat(worldOf("; ; a:").Pending, 20)}, out.Path, out.Tree, "", nil)
	full := impl.World{Store: manyItems(300)}
	planAddIs(t, full, out.Path, out.Tree, "", nil)
	planAddIs(t, full, full.Store[7].Path, full.Store[7].Tree, "", addsOf([]impl.Out{{Path: full.Store[7].Path, Tree: full.Store[7].Tree}}))
	planAddIs(t, full, full.Store[7].Path, nil, "", nil)
	planAddIs(t, impl.World{Store: manyItems(299)}, out.Path, out.Tree, "", addsOf(outsOf("a:")))
}

// In a row: a world, Outs, and whether all of them are in the plan or there is none.
func TestPlanInstall(t *testing.T) {
	const all = "all"
	for _, r := range [][3]string{
		{"", "a:", all}, {"", "a: b:", all}, {"", "b: a:", all}, {"", "a: b:a c:ab", all}, {"a: ; me:1 1a ; b: ; me=b he=a", "b:a d:b", all}, {"; ; b:c", "a: b:a", all}, {"", "a:a", all},
		// A later one that an earlier one refers to can't come.
		{"", "a:b b:", "none"}, {"", "a:b", all}, {"", "c: a:b b: d:", "none"}, {"a:b", "b:", "none"}, {"a:b", "c: b:", "none"}, {"b:", "a:b b:", all}, {"", "a:aa aa:", "none"}, {"", "aa:a a:", "none"},
		// There already, with the same Sum and with another one.
		{"a:", "a:", all}, {"a:", "a: b:", all}, {"a:", "b: a:", all}, {"a:b b:", "b: a:b", all}, {"a:", "a:b", "none"}, {"a:", "b: a:b", "none"}, {"a:", "a:b b:", "none"}, {"a:b", "a:", "none"},
		// The same twice, and two of one Path.
		{"", "a: a:", all}, {"", "a: b: a: b:", all}, {"", "a: a:b", "none"}, {"", "a:b a:", "none"}, {"a:", "a: a: a:", all}, {"", "a:a a:a", all}, {"; ; a:b a:", "a: a:", all},
		{"", "", "none"}, {"a:", "", "none"},
	} {
		w, outs := worldOf(r[0]), outsOf(r[1])
		for _, name := range []string{"me", "new", "x", strings.Repeat("n", 60)} {
			if r[2] == "none" {
				installIs(t, w, name, outs, nil)
				continue
			}
			last := outs[len(outs)-1].Path
			plan := append(addsOf(outs), impl.Write{Kind: 3, Name: name, Path: last}, impl.Write{Kind: 4, Name: name})
			installIs(t, w, name, outs, plan)
			crashHolds(t, w, name, outs)
		}
		for _, name := range noNames() {
			installIs(t, w, name, outs, nil)
		}
	}
}

// An Out's Name is not looked at.
func TestPlanInstallOfOtherNames(t *testing.T) {
	for _, name := range append(noNames(), "out", "lib") {
		outs := outsOf("a: b:a")
		outs[0].Name, outs[1].Name = name, name
		installIs(t, impl.World{}, "me", outs, append(addsOf(outs), writesOf("next me b, switch me")...))
	}
}

func TestPlanInstallOfWhatCantBe(t *testing.T) {
	w := worldOf("a: ; me:1 1a")
	for at := range 3 {
		for _, path := range noAddresses() {
			outs := outsOf("b: c: d:")
			outs[at].Path = path
			installIs(t, w, "me", outs, nil)
			installIs(t, w, "me", outs[at:at+1], nil)
		}
		for _, tree := range [][]impl.Entry{{{}}, entriesOf("b=x a=x"), entriesOf("a/b=x"), manyEntries(501)} {
			outs := outsOf("a: c: d:")
			outs[at].Tree = tree
			installIs(t, w, "me", outs, nil)
			installIs(t, w, "me", outs[at:at+1], nil)
		}
	}
	installIs(t, w, "me", []impl.Out{{}}, nil)
}

func TestPlanInstallAtLimits(t *testing.T) {
	end := func(name string, outs []impl.Out) []impl.Write {
		return []impl.Write{{Kind: 3, Name: name, Path: outs[len(outs)-1].Path}, {Kind: 4, Name: name}}
	}
	for n, isPlan := range map[int]bool{1: true, 19: true, 20: true, 21: false, 40: false} {
		outs := manyOuts(n)
		same := slices.Repeat(manyOuts(1), n)
		for _, w := range []impl.World{{}, {Store: manyItems(20), Pending: manyPendings(19), Nexts: manyNexts(19)}} {
			if isPlan {
				installIs(t, w, "me", outs, append(addsOf(outs), end("me", outs)...))
				installIs(t, w, "me", same, append(addsOf(same), end("me", same)...))
			} else {
				installIs(t, w, "me", outs, nil)
				installIs(t, w, "me", same, nil)
			}
		}
	}
	outs := outsOf("a: b:")
	for n, want := range map[int][]impl.Write{18: append(addsOf(outs), end("me", outs)...), 19: append(addsOf(outs), end("me", outs)...), 20: nil} {
		installIs(t, impl.World{Nexts: manyNexts(n)}, "me", outs, want)
		installIs(t, impl.World{Nexts: manyNexts(n)}, "n3", outs, slices.Concat(want[:min(len(want), 4)], end("n3", outs)[:min(len(want), 2)]))
		installIs(t, impl.World{Pending: manyPendings(n)}, "me", outs, want)
	}
	// As full as the store can be: the last that has room.
	installIs(t, impl.World{Store: manyItems(298)}, "me", outs, append(addsOf(outs), end("me", outs)...))
	installIs(t, impl.World{Store: manyItems(299)}, "me", outs, nil)
	installIs(t, impl.World{Store: manyItems(299)}, "me", outs[:1], append(addsOf(outs[:1]), end("me", outs[:1])...))
	installIs(t, impl.World{Store: manyItems(300)}, "me", outs[:1], nil)
}

// With no room among the Pendings PlanAdd says nothing: that is no hindrance for what is there already with the same Sum, and one for all else.
func TestPlanInstallWithNoRoom(t *testing.T) {
	w := worldOf("a: b:a")
	w.Pending = manyPendings(20)
	installIs(t, w, "me", outsOf("a:"), writesOf("next me a, switch me"))
	installIs(t, w, "me", outsOf("a: b:a"), writesOf("next me b, switch me"))
	installIs(t, w, "me", outsOf("b:a a: b:a a:"), writesOf("next me a, switch me"))
	for _, row := range []string{"c:", "a: c:", "c: a:", "a: b:", "a:b", "b:a a: c:"} {
		installIs(t, w, "me", outsOf(row), nil)
	}
	// A finish takes all of its Path away, and so makes room.
	w.Pending = append(manyPendings(17), worldOf("; ; c: c:a").Pending...)
	installIs(t, w, "me", outsOf("c: d:"), append(addsOf(outsOf("c: d:")), writesOf("next me d, switch me")...))
	w.Pending = append(manyPendings(18), worldOf("; ; c: c:a").Pending...)
	installIs(t, w, "me", outsOf("c:"), nil)
	installIs(t, w, "me", outsOf("a: b:a"), writesOf("next me b, switch me"))
}

func TestPlanCollect(t *testing.T) {
	for _, r := range [][2]string{
		{"", ""}, {"a:", "a"}, {"a:a", "a"}, {"a: ; me:1 1a", ""}, {"a: b: c:", "a b c"}, {"a: b: c: ; me:0 1b", "a c"}, {"a: b: ; me:2 1a 2b", ""}, {"a: b: ; me:0 ; c: ; me=d", "a b"},
		// Chains, from whichever end.
		{"a:b b:c c:", "a b c"}, {"a: b:a c:b", "c b a"}, {"a: b:a c:b ; me:1 1a", "c b"}, {"a: b:a c:b ; me:1 1b", "c"}, {"a: b:a c:b ; me:1 1c", ""}, {"a:c b: c: d:a", "b d a c"}, {"a:ab b:b c:a", "c a b"}, {"b:d c: d:c f:bc", "f b d c"},
		{"a: b: c: d:ab", "c d a b"}, {"a:d b:d c: d:c", "a b d c"}, {"a: aa: b:a", "b a aa"}, {"a:b b: c:b ; me:1 1c", "a"},
		// Circles stay, and what they refer to; what refers to them goes.
		{"a:b b:a", ""}, {"a:b b:a c:", "c"}, {"a:b b:a c:a", "c"}, {"a:b b:a c: d:c", "d c"}, {"a:bc b:a c:", ""}, {"a:b b:c c:a d:a f:d", "f d"}, {"a:ab b:ab c:b", "c"}, {"a:b b:a c: ; me:1 1c", ""}, {"a:b b:a c: ; me:1 1a", "c"}, {"a:a b:b c:cab", "c a b"}, {"a:a aa:a", ""},
		// What has been begun keeps what it is and what it needs.
		{"a: b: ; ; ; me=a", "b"}, {"a: b:a c: ; ; ; me=b you=b", "c"}, {"a: b: ; ; b:", "a"}, {"a: b: c: ; ; d:b", "a c"}, {"a: b:a c: ; ; d:b", "c"}, {"a: b: c: ; ; d:a f:b ; me=c", ""}, {"a: b: ; ; a:b", ""}, {"a: b: ; ; a: a:b a:", ""}, {"b:c c: d: ; ; d:", "b c"}, {"a:b ; ; b:", "a"},
		{"a: b:a c:b d: f:d ; me:1 1a ; g:d ; he=a", "c b f"},
	} {
		w := worldOf(r[0])
		plan := []impl.Write{}
		for name := range strings.FieldsSeq(r[1]) {
			plan = append(plan, writeOf("cut "+name))
		}
		collectPlanIs(t, w, plan)
		collectHoldsFor(t, w)
	}
}

// profileOrNone is the profile of that name as a list, of none when it is not there.
func profileOrNone(ps []impl.Profile, name string) []impl.Profile {
	return slices.DeleteFunc(slices.Clone(ps), func(p impl.Profile) bool { return p.Name != name })
}

// keptHolds: what profiles need in one world is there in the other, as it was.
func keptHolds(t *testing.T, what string, before impl.World, after impl.World) {
	t.Helper()
	for _, path := range impl.Closure(before.Store, impl.Roots(before.Profiles, nil)) {
		at := plainItemAt(after.Store, path)
		if at < 0 || !same(after.Store[at], before.Store[plainItemAt(before.Store, path)]) {
			t.Fatalf("%s: %q is gone, or another one:\n%v\nthen\n%v", what, path, before, after)
		}
	}
}

// crashHolds lets the power go at each step of an installation, and the same be planned anew.
func crashHolds(t *testing.T, w impl.World, name string, outs []impl.Out) {
	t.Helper()
	plan := impl.PlanInstall(w, name, outs)
	if len(plan) == 0 {
		return
	}
	end := impl.RunWorld(w, plan, math.MaxInt64)
	if !impl.WorldOk(end) {
		t.Fatalf("%v, %v done: it can't be:\n%v", w, plan, end)
	}
	for n := range len(plan) + 1 {
		crashed := impl.RunWorld(w, plan, int64(n))
		recovered := impl.Recover(crashed)
		if !impl.WorldOk(crashed) || !impl.WorldOk(recovered) || len(recovered.Pending)+len(recovered.Nexts) > 0 {
			t.Fatalf("%v, %d of %v: it can't be:\n%v", w, n, plan, crashed)
		}
		keptHolds(t, fmt.Sprint(n, " steps"), w, crashed)
		keptHolds(t, fmt.Sprint(n, " steps, recovered"), w, recovered)
		want := w.Profiles
		if n == len(plan) {
			want = end.Profiles
		}
		if !same(recovered.Profiles, want) || !same(crashed.Profiles, want) {
			t.Fatalf("%v, %d of %v: the profiles are neither as ahead nor as behind:\n%v", w, n, plan, recovered.Profiles)
		}
		again := impl.RunWorld(recovered, impl.PlanInstall(recovered, name, outs), math.MaxInt64)
		if !same(again.Profiles, end.Profiles) || !same(again.Store, end.Store) {
			t.Fatalf("%v, %d of %v, recovered and done anew:\n%v\nnot\n%v", w, n, plan, again, end)
		}
	}
	switchIsOneStep(t, w, name, outs, end)
}

// switchIsOneStep: where the profile could be switched it has one Gen more, or has that path as before; rolled back it is what it was.
func switchIsOneStep(t *testing.T, w impl.World, name string, outs []impl.Out, end impl.World) {
	t.Helper()
	last := outs[len(outs)-1].Path
	switched, can := impl.Switch(w.Profiles, name, last)
	if !same(end.Profiles, switched) || can != (impl.Current(end.Profiles, name) == last) || can && !impl.WorldOk(end) {
		t.Fatalf("%v: %q installed to %q:\n%v", w, name, last, end)
	}
	back := impl.DoWrite(end, impl.Write{Kind: impl.WriteBack, Name: name})
	before := profileAt(w.Profiles, name)
	wasLast := len(before.Gens) > 0 && before.Now == before.Gens[len(before.Gens)-1].N
	if can && wasLast && !same(end.Profiles, w.Profiles) && impl.Current(back.Profiles, name) != impl.Current(w.Profiles, name) {
		t.Fatalf("%v: %q rolled back is not what it was:\n%v", w, name, back)
	}
	for _, p := range w.Profiles {
		if p.Name != name && !same(profileOrNone(end.Profiles, p.Name), []impl.Profile{p}) {
			t.Fatalf("%v: another profile than %q was changed:\n%v", w, name, end)
		}
	}
}

// collectHoldsFor asks for the promise at each step of a collection, cut off there and planned anew.
func collectHoldsFor(t *testing.T, w impl.World) {
	t.Helper()
	plan, needed := impl.PlanCollect(w), plainNeeded(w)
	end := impl.RunWorld(w, plan, math.MaxInt64)
	for n := range len(plan) + 1 {
		part := impl.RunWorld(w, plan, int64(n))
		if !impl.WorldOk(part) || len(part.Store) != len(w.Store)-n || !same(plainNeeded(part), needed) {
			t.Fatalf("%v, %d of %v: %q are needed, and left are\n%v", w, n, plan, needed, part)
		}
		if !same(part.Profiles, w.Profiles) || !same(part.Pending, w.Pending) || !same(part.Nexts, w.Nexts) {
			t.Fatalf("%v, %d of %v: more than the store was changed:\n%v", w, n, plan, part)
		}
		again := impl.PlanCollect(part)
		if !same(again, plan[n:]) || !same(impl.RunWorld(part, again, math.MaxInt64), end) {
			t.Fatalf("%v, %d of %v, planned anew:\n%v", w, n, plan, again)
		}
		// What has been begun goes with the power; then no less can go.
		recovered := impl.Recover(part)
		whole := impl.RunWorld(impl.Recover(w), impl.PlanCollect(impl.Recover(w)), math.MaxInt64)
		if !same(impl.RunWorld(recovered, impl.PlanCollect(recovered), math.MaxInt64), whole) {
			t.Fatalf("%v, %d of %v, recovered, planned anew:\n%v\nnot\n%v", w, n, plan, recovered, whole)
		}
	}
	for _, item := range end.Store {
		if got := impl.DoWrite(end, impl.Write{Kind: impl.WriteCut, Path: item.Path}); !same(got, end) {
			t.Fatalf("%v, collected: %q can still go", w, item.Path)
		}
	}
	circlesAlone(t, end)
}

// circlesAlone: what is left and not needed is in a circle, or one refers to it.
func circlesAlone(t *testing.T, w impl.World) {
	t.Helper()
	needed := plainNeeded(w)
	for _, item := range w.Store {
		if slices.Contains(needed, item.Path) {
			continue
		}
		isHeld := false
		for _, other := range w.Store {
			users := plainUsedBy(w.Store, other.Path)
			isHeld = isHeld || slices.Contains(impl.Closure(w.Store, []string{other.Path}), item.Path) && slices.ContainsFunc(users, func(user string) bool {
				return user != other.Path && slices.Contains(impl.Closure(w.Store, []string{other.Path}), user)
			})
		}
		if !isHeld {
			t.Fatalf("%q is left, and nothing holds it:\n%v", item.Path, w)
		}
	}
}

// A worldMaker makes worlds of a few names and paths, of which some have one word.
type worldMaker struct{ storeMaker }

func (m worldMaker) someone() string { return []string{"he", "me", "you"}[m.Intn(3)] }

// smallTree is often the same one.
func (m worldMaker) smallTree() []impl.Entry {
	if m.Intn(4) == 0 {
		return m.refTree()
	}
	letters := ""
	for range m.Intn(3) {
		letters += m.name()[:1]
	}
	return treeAt(letters)
}

func (m worldMaker) items(most int) []impl.Item {
	items := []impl.Item{}
	for range m.Intn(most + 1) {
		if path := pathAt(m.name()); plainItemAt(items, path) < 0 {
			items = append(items, impl.Item{Path: path, From: m.from(), Tree: m.smallTree()})
		}
	}
	return plainStore(items...)
}

func (m worldMaker) world() impl.World {
	w := impl.World{Store: m.items(7)}
	for _, name := range []string{"he", "me", "you"} {
		p := impl.Profile{Name: name}
		for n := int64(1); m.Intn(2) == 0 && len(w.Store) > 0; n += int64(1 + m.Intn(2)) {
			p.Gens = append(p.Gens, impl.Gen{N: n, Path: w.Store[m.Intn(len(w.Store))].Path})
		}
		if len(p.Gens) > 0 && m.Intn(4) > 0 {
			p.Now = p.Gens[m.Intn(len(p.Gens))].N
		}
		if m.Intn(2) == 0 {
			w.Profiles = append(w.Profiles, p)
		}
	}
	for range m.Intn(3) * m.Intn(3) {
		w.Pending = append(w.Pending, impl.Pending{Path: pathAt(m.name()), Tree: m.smallTree(), From: m.from()})
	}
	for range m.Intn(3) * m.Intn(3) {
		w.Nexts = append(w.Nexts, impl.Next{Name: m.someone(), Path: pathAt(m.name())})
	}
	if m.Intn(20) == 0 {
		w.Pending = append(w.Pending, manyPendings(20)[:20-len(w.Pending)-m.Intn(2)]...)
	}
	if m.Intn(20) == 0 {
		w.Nexts = append(w.Nexts, manyNexts(20)[:20-len(w.Nexts)-m.Intn(2)]...)
	}
	return w
}

// spoilWorld makes a world nearly one.
func (m worldMaker) spoilWorld(w impl.World) impl.World {
	kind := m.Intn(7)
	switch {
	case kind == 0 && len(w.Store) > 0:
		w.Store = m.spoil(w.Store)
	case kind == 1 && len(w.Profiles) > 0:
		w.Profiles = profileMaker{m.Rand}.spoil(w.Profiles)
	case kind == 2 && len(w.Store) > 0:
		w.Store = slices.Delete(w.Store, 0, 1)
	case kind == 3:
		w.Pending = append(w.Pending, impl.Pending{Path: []string{"", "a", wordAt("1"), pathAt("1")}[m.Intn(4)], Tree: m.smallTree(), From: []string{"", "x", pathAt("1")}[m.Intn(3)]})
	case kind == 4:
		w.Pending = append(w.Pending, impl.Pending{Path: pathAt("1"), Tree: append(m.refTree(), m.entry("a b", 2))})
	case kind == 5:
		w.Nexts = append(w.Nexts, impl.Next{Name: []string{"", ".me", "me"}[m.Intn(3)], Path: []string{"", "a", pathAt("1")}[m.Intn(3)]})
	case kind == 6:
		w.Profiles = append(w.Profiles, impl.Profile{Name: "zz", Gens: []impl.Gen{{N: 1, Path: pathAt(m.name())}}})
	}
	return w
}

func (m worldMaker) write() impl.Write {
	x := impl.Write{Kind: []int64{1, 1, 2, 3, 4, 5, 5, 6, 6, 7, 7, 7}[m.Intn(12)]}
	switch m.Intn(30) {
	case 0:
		x = impl.Write{Kind: int64(m.Intn(10) - 1), Name: m.someone(), Path: pathAt(m.name()), Tree: m.refTree(), From: m.from(), N: int64(m.Intn(4))}
	case 1:
		x.Name, x.Path = []string{"", ".", "x"}[m.Intn(3)], []string{"", "x", wordAt("1")}[m.Intn(3)]
	default:
		x.Name, x.Path, x.N = m.someone(), pathAt(m.name()), int64(m.Intn(4)-1)
		if x.Kind == 1 {
			x.Tree, x.From = m.smallTree(), m.from()
		}
	}
	return x
}

// aptWrite is one that this world can mostly do.
func (m worldMaker) aptWrite(w impl.World) impl.Write {
	x := m.write()
	switch {
	case m.Intn(4) == 0:
	case x.Kind <= 2 && len(w.Pending) > 0:
		x = impl.Write{Kind: 2, Path: w.Pending[m.Intn(len(w.Pending))].Path}
	case x.Kind == 3 && len(w.Store) > 0, x.Kind == 7 && len(w.Store) > 0:
		x.Path = w.Store[m.Intn(len(w.Store))].Path
	case x.Kind == 4 && len(w.Nexts) > 0:
		x.Name = w.Nexts[m.Intn(len(w.Nexts))].Name
	}
	return x
}

func (m worldMaker) outs() []impl.Out {
	outs := []impl.Out{}
	for range m.Intn(4) + m.Intn(2) {
		outs = append(outs, impl.Out{Name: "out", Path: pathAt(m.name()), Tree: m.smallTree()})
	}
	return outs
}

// worldAgrees holds all that is asked of a world against plain words.
func worldAgrees(t *testing.T, w impl.World, m worldMaker) {
	t.Helper()
	if got, want := impl.WorldOk(w), plainWorldOk(w); got != want {
		t.Fatalf("WorldOk of\n%v: %v", w, got)
	}
	xs := []impl.Write{}
	for range 4 {
		x := m.write()
		doIs(t, w, x, plainDo(w, x))
		xs = append(xs, x)
	}
	n := int64(m.Intn(6) - 1)
	runIs(t, w, xs, n, plainRun(w, xs, n))
	recoverIs(t, w, plainRecover(w))
	for _, out := range append(m.outs(), impl.Out{Path: "x"}) {
		from := m.from()
		planAddIs(t, w, out.Path, out.Tree, from, plainPlanAdd(w, out.Path, out.Tree, from))
	}
	outs := m.outs()
	installIs(t, w, "me", outs, plainPlanInstall(w, "me", outs))
	collectPlanIs(t, w, plainPlanCollect(w))
}

func TestWorldsByChance(t *testing.T) {
	m := worldMaker{storeMaker{treeMaker{rand.New(rand.NewSource(191))}}}
	can, plans := map[bool]int{}, map[string]int{}
	for range 2500 {
		w := m.world()
		if m.Intn(4) == 0 {
			w = m.spoilWorld(w)
		}
		can[plainWorldOk(w)]++
		worldAgrees(t, w, m)
		plans[fmt.Sprint("cuts ", min(len(impl.PlanCollect(w)), 4))]++
		plans[fmt.Sprint("installs ", min(len(impl.PlanInstall(w, "me", m.outs())), 8))]++
	}
	if can[true] < 1500 || can[false] < 300 {
		t.Error(can)
	}
	for _, kind := range []string{"cuts 0", "cuts 1", "cuts 2", "cuts 3", "installs 0", "installs 4", "installs 6", "installs 8"} {
		if plans[kind] < 50 {
			t.Error(kind, plans)
		}
	}
}

// What is done, step by step, leaves a world that can be, and what profiles need there, but for what pruning lets go.
func TestWorldsStepByStep(t *testing.T) {
	m := worldMaker{storeMaker{treeMaker{rand.New(rand.NewSource(192))}}}
	done := map[int64]int{}
	for range 300 {
		w, xs := m.world(), []impl.Write{}
		first := w
		for range 60 {
			x := m.aptWrite(w)
			after := impl.DoWrite(w, x)
			if !impl.WorldOk(after) || !plainWorldOk(after) {
				t.Fatalf("%v, and %v: it can't be:\n%v", w, x, after)
			}
			if !same(after, plainDo(w, x)) {
				t.Fatalf("%v, and %v:\n%v\nnot\n%v", w, x, after, plainDo(w, x))
			}
			keptHolds(t, fmt.Sprint(x), w, after)
			oneThingChanged(t, w, x, after)
			if !same(after, w) {
				done[x.Kind]++
			}
			w, xs = after, append(xs, x)
		}
		for _, n := range []int{0, 1, 17, 30, 59, 60} {
			part := impl.RunWorld(first, xs, int64(n))
			if !same(impl.RunWorld(part, xs[n:], math.MaxInt64), w) {
				t.Fatalf("%v, and %v, parted at %d, is another one", first, xs, n)
			}
		}
	}
	for kind := int64(1); kind <= 7; kind++ {
		if done[kind] < 100 {
			t.Error(done)
		}
	}
	if len(done) != 7 {
		t.Error(done)
	}
}

// oneThingChanged: a Kind changes what it is for, and nothing else.
func oneThingChanged(t *testing.T, before impl.World, x impl.Write, after impl.World) {
	t.Helper()
	stays := map[string]bool{
		"store":    same(before.Store, after.Store),
		"profiles": same(before.Profiles, after.Profiles),
		"pendings": same(before.Pending, after.Pending),
		"nexts":    same(before.Nexts, after.Nexts),
	}
	may := map[int64]string{1: "pendings", 2: "pendings store", 3: "nexts", 4: "nexts profiles", 5: "profiles", 6: "profiles", 7: "store"}
	for what, isSame := range stays {
		if !isSame && !strings.Contains(may[x.Kind], what) {
			t.Fatalf("%v changes the %s of\n%v", x, what, before)
		}
	}
}

func TestCrashesByChance(t *testing.T) {
	m := worldMaker{storeMaker{treeMaker{rand.New(rand.NewSource(193))}}}
	planned := 0
	for range 2500 {
		w, outs := m.world(), m.outs()
		if len(impl.PlanInstall(w, "me", outs)) > 0 {
			planned++
		}
		crashHolds(t, w, m.someone(), outs)
	}
	if planned < 400 {
		t.Error(planned)
	}
}

func TestCollectionsByChance(t *testing.T) {
	m := worldMaker{storeMaker{treeMaker{rand.New(rand.NewSource(194))}}}
	cuts := 0
	for range 400 {
		w := m.world()
		cuts += len(impl.PlanCollect(w))
		collectHoldsFor(t, w)
		w = impl.World{Store: m.sparse(m.Intn(12))}
		if len(w.Store) > 3 {
			w.Nexts = []impl.Next{{Name: "me", Path: w.Store[m.Intn(len(w.Store))].Path}}
		}
		cuts += len(impl.PlanCollect(w))
		collectHoldsFor(t, w)
	}
	if cuts < 1000 {
		t.Error(cuts)
	}
}

// Every store of three items, each of which may refer to each, and of which each may be kept in each way.
func TestCollectionsOfEverySmallWorld(t *testing.T) {
	names := []string{"a", "b", "c"}
	for refs := range 1 << 9 {
		row := ""
		for i, name := range names {
			row += " " + name + ":"
			for j, letter := range names {
				if refs>>(3*i+j)&1 == 1 {
					row += letter
				}
			}
		}
		ways := []string{"", "; me:1 1a", "; me:0 1a 2b", "; ; ; me=b", "; ; c:", "; ; d:b", "; ; d:cb ; me=d", "; me:1 1c ; d: ; me=a"}
		for _, way := range ways {
			w := worldOf(row + way)
			collectPlanIs(t, w, plainPlanCollect(w))
			for _, name := range names {
				x := writeOf("cut " + name)
				doIs(t, w, x, plainDo(w, x))
			}
		}
		if refs%5 == 0 {
			collectHoldsFor(t, worldOf(row+ways[refs%len(ways)]))
		}
	}
}

// An installation, cut off at each step and collected there, with what has been begun and without it. What is finished, and not yet referred to by what has been begun, is needed by nothing.
func TestInstallationsAndCollections(t *testing.T) {
	start := worldOf("a: b: c:b ; me:1 1a")
	plan := impl.PlanInstall(start, "me", outsOf("d:b f:da g:f"))
	kept := []string{"a", "a b", "a", "a b d", "a", "a b d f", "a", "a b d f g", "a b d f g"}
	if len(plan)+1 != len(kept) {
		t.Fatal(plan)
	}
	collected := func(w impl.World) impl.World { return impl.RunWorld(w, impl.PlanCollect(w), math.MaxInt64) }
	for n, row := range kept {
		w := impl.RunWorld(start, plan, int64(n))
		if left := collected(w); !same(plainPathsIn(left.Store), pathsAt(row)) || !same(left.Profiles, w.Profiles) {
			t.Errorf("%d steps, collected: %q are left, not %q", n, plainPathsIn(left.Store), row)
		}
		if n == len(plan) {
			break
		}
		if left := collected(impl.Recover(w)); !same(left, worldOf("a: ; me:1 1a")) {
			t.Errorf("%d steps, recovered, collected: %v", n, left)
		}
	}
	end := collected(impl.RunWorld(start, plan, math.MaxInt64))
	if !same(end, worldOf("a: b: d:b f:da g:f ; me:2 1a 2g")) {
		t.Error(end)
	}
	if end = collected(impl.RunWorld(end, writesOf("back me, prune me 1, prune me 0"), 2)); !same(end, worldOf("a: b: d:b f:da g:f ; me:1 1a 2g")) {
		t.Error(end)
	}
	if end = collected(impl.RunWorld(end, writesOf("prune me 0"), 1)); !same(end, worldOf("a: ; me:1 1a")) {
		t.Error(end)
	}
}

// greatWorld has as much as can be of all: items, profiles with Gens, Pendings and Nexts.
func greatWorld(refs func(number int) []int, gens func(number int) int) impl.World {
	w := impl.World{Store: greatStore(refs), Pending: manyPendings(20), Nexts: manyNexts(20)}
	for i := range 20 {
		p := impl.Profile{Name: fmt.Sprintf("p%02d", i), Now: 50}
		for n := range 50 {
			p.Gens = append(p.Gens, impl.Gen{N: int64(n + 1), Path: w.Store[gens(i*50+n)].Path})
		}
		w.Profiles = append(w.Profiles, p)
	}
	return w
}

func TestTheGreatestWorlds(t *testing.T) {
	began := time.Now()
	all := []int{}
	for number := range 300 {
		all = append(all, number)
	}
	paths := plainPathsIn(manyItems(300))
	chain := greatWorld(func(number int) []int { return all[max(number-1, 0):number] }, func(number int) int { return number % 100 })
	worldCan(t, "a chain", chain, true)
	plan := []impl.Write{}
	for number := 299; number >= 100; number-- {
		plan = append(plan, impl.Write{Kind: impl.WriteCut, Path: paths[number]})
	}
	if got := impl.PlanCollect(chain); !same(got, plan) {
		t.Errorf("of a chain %d go", len(got))
	}
	// All are tried from the first on, six times: each time the last alone can go.
	tries := []impl.Write{}
	for range 6 {
		for _, path := range paths {
			tries = append(tries, impl.Write{Kind: impl.WriteCut, Path: path})
		}
	}
	if got := impl.RunWorld(chain, tries, 2000); len(got.Store) != 294 || !impl.WorldOk(got) {
		t.Errorf("of a chain %d are left", len(got.Store))
	}
	if got := impl.RunWorld(chain, plan, 2000); !same(got.Store, chain.Store[:100]) || !same(got.Profiles, chain.Profiles) {
		t.Errorf("of a chain %d are left", len(got.Store))
	}
	lone, cuts := impl.World{Store: manyItems(300)}, []impl.Write{}
	for _, path := range paths {
		cuts = append(cuts, impl.Write{Kind: impl.WriteCut, Path: path})
	}
	if got := impl.PlanCollect(lone); !same(got, cuts) || !same(impl.RunWorld(lone, got, 300), impl.World{}) {
		t.Errorf("of what nothing needs %d go", len(got))
	}
	whole := greatWorld(func(int) []int { return all }, func(number int) int { return 7 })
	if got := impl.PlanCollect(whole); len(got) > 0 {
		t.Errorf("of what all needs each other %d go", len(got))
	}
	whole.Profiles = nil
	if got := impl.PlanCollect(whole); len(got) > 0 {
		t.Errorf("of what is all one circle %d go", len(got))
	}
	data := strings.Repeat("x", 20000-13)
	for i := range chain.Pending {
		chain.Pending[i].Tree = []impl.Entry{{Path: "f", Kind: 2, Data: data + paths[280+i][:13]}}
	}
	if got := impl.PlanCollect(chain); len(got) > 0 {
		t.Errorf("with Pendings %d go", len(got))
	}
	if got := impl.RunWorld(chain, tries, 2000); !same(got, chain) {
		t.Errorf("with Pendings %d are left", len(got.Store))
	}
	if took := time.Since(began); took > 20*time.Second {
		t.Error("it took", took)
	}
}

func TestTheGreatestInstallation(t *testing.T) {
	w := impl.World{Store: manyItems(280), Profiles: manyProfiles(19), Pending: manyPendings(19), Nexts: manyNexts(19)}
	for i := range w.Profiles {
		w.Profiles[i].Gens = []impl.Gen{{N: 1, Path: w.Store[i].Path}}
	}
	outs := manyOuts(20)
	for i := range outs {
		data := strings.Repeat("x", 10000)
		for _, other := range outs[:i] {
			data += other.Path
		}
		outs[i].Tree = []impl.Entry{{Path: "f", Kind: 2, Data: data}}
	}
	crashHolds(t, w, "me", outs)
	end := impl.RunWorld(w, impl.PlanInstall(w, "me", outs), math.MaxInt64)
	if len(end.Store) != 300 || impl.Current(end.Profiles, "me") != outs[19].Path || len(impl.Closure(end.Store, []string{outs[19].Path})) != 20 {
		t.Error(len(end.Store), end.Profiles)
	}
	if xs := impl.PlanInstall(end, "you", manyOuts(21)[20:]); len(xs) > 0 {
		t.Error("more than there is room for:", xs)
	}
}

// Whoever else asks at the same time, the answer is the same, and no goroutine is left behind.
func TestWorldsAreTheSameEachTime(t *testing.T) {
	before := runtime.NumGoroutine()
	m := worldMaker{storeMaker{treeMaker{rand.New(rand.NewSource(195))}}}
	worlds, lists, outs := []impl.World{}, [][]impl.Write{}, [][]impl.Out{}
	for range 8 {
		w, xs := m.world(), []impl.Write{}
		for range 30 {
			xs = append(xs, m.write())
		}
		worlds, lists, outs = append(worlds, w), append(lists, xs), append(outs, m.outs())
	}
	answers := func(number int) string {
		w, xs := worlds[number], lists[number]
		end := impl.RunWorld(w, xs, 25)
		return fmt.Sprint(impl.WorldOk(w), impl.DoWrite(w, xs[0]), end, impl.Recover(end), impl.PlanCollect(w), impl.PlanCollect(end), impl.PlanInstall(end, "me", outs[number]), impl.PlanAdd(w, pathAt("1"), treeAt("2"), ""))
	}
	wants := []string{}
	for number := range worlds {
		wants = append(wants, answers(number))
	}
	for _, procs := range []int{1, 2, 8} {
		was := runtime.GOMAXPROCS(procs)
		var joined sync.WaitGroup
		for number := range worlds {
			joined.Go(func() {
				for range 20 {
					if got := answers(number); got != wants[number] {
						t.Errorf("%d: another answer: %.300q", procs, got)
					}
				}
			})
		}
		joined.Wait()
		runtime.GOMAXPROCS(was)
	}
	for range 1000 {
		if runtime.NumGoroutine() <= before {
			return
		}
		time.Sleep(time.Millisecond)
	}
	t.Errorf("%d goroutines, not %d", runtime.NumGoroutine(), before)
}

// memoryWorlds have texts of more than one byte only: Go keeps those of one byte in a place of its own.
func memoryWorlds() []impl.World {
	w := impl.World{
		Store: plainStore(
			impl.Item{Path: pathAt("a"), From: pathAt("9.drv"), Tree: entriesOf("aa/ aa/bb=" + wordAt("b") + " cc>" + wordAt("a"))},
			impl.Item{Path: pathAt("b"), Tree: []impl.Entry{{Path: "ff", Kind: 2, Data: "see " + wordAt("a")}}},
			impl.Item{Path: pathAt("c"), Tree: []impl.Entry{{Path: "ff", Kind: 2, Data: "see " + wordAt("d")}}},
			impl.Item{Path: pathAt("g"), Tree: nil},
		),
		Profiles: []impl.Profile{{Name: "he", Now: 0}, {Name: "me", Now: 2, Gens: []impl.Gen{{N: 1, Path: pathAt("a")}, {N: 2, Path: pathAt("b")}}}},
		Pending:  []impl.Pending{{Path: pathAt("f"), Tree: entriesOf("dd/ dd/ee=see"), From: pathAt("8.drv")}, {Path: pathAt("f"), Tree: entriesOf("gg=" + wordAt("b"))}, {Path: pathAt("1")}},
		Nexts:    []impl.Next{{Name: "me", Path: pathAt("a")}, {Name: "he", Path: pathAt("f")}, {Name: "me", Path: pathAt("c")}},
	}
	wrong := worldOf("a: ; me:1 1a ; b: ; me=b")
	wrong.Nexts[0].Name = ".me"
	full := w
	full.Pending, full.Nexts = manyPendings(20), manyNexts(20)
	return []impl.World{w, impl.Recover(w), full, wrong, {}}
}

func TestWorldsAreNewMemory(t *testing.T) {
	given, stays, worlds := []any{}, []func() bool{}, []impl.World{}
	for _, w := range memoryWorlds() {
		w, stay := roomyAll(w)
		worlds, given, stays = append(worlds, w), append(given, w), append(stays, stay)
	}
	tree := entriesOf("aa/ aa/bb=text")
	xs, xsStay := roomyAll([]impl.Write{
		{Kind: 1, Path: pathAt("2"), Tree: tree, From: pathAt("7.drv")}, {Kind: 1, Path: pathAt("2"), Tree: tree}, {Kind: 2, Path: pathAt("2")}, {Kind: 2, Path: pathAt("f")}, {Kind: 3, Name: "new", Path: pathAt("2")}, {Kind: 3, Name: "new", Path: pathAt("f")},
		{Kind: 4, Name: "new"}, {Kind: 4, Name: "me"}, {Kind: 4, Name: "he"}, {Kind: 5, Name: "me"}, {Kind: 6, Name: "me", N: 1}, {Kind: 7, Path: pathAt("g")}, {Kind: 7, Path: pathAt("a")}, {Kind: 2, Path: pathAt("c")}, {Kind: 1, Path: "none", Tree: tree}, {},
	})
	outs, outsStay := roomyAll([]impl.Out{{Name: "out", Path: pathAt("3"), Tree: tree}, {Name: "out", Path: pathAt("g")}, {Name: "out", Path: pathAt("3"), Tree: tree}, {Name: "lib", Path: pathAt("4"), Tree: entriesOf("ll>" + wordAt("3"))}})
	name, from := strings.Clone("name"), pathAt("9.drv")
	given, stays = append(given, xs, outs, tree, name, from), append(stays, xsStay, outsStay)
	answers, befores := []any{}, []string{}
	see := func(answer any) {
		if !isNew(answer, given...) {
			t.Errorf("%v is not new", answer)
		}
		answers = append(answers, answer)
		befores = append(befores, fmt.Sprint(answer))
	}
	for i, w := range worlds {
		impl.WorldOk(w)
		for _, x := range xs[:len(xs)/(1+2*i)] {
			see(impl.DoWrite(w, x))
		}
		for _, n := range []int64{-1, 3, 100} {
			see(impl.RunWorld(w, xs, n))
		}
		see(impl.Recover(w))
		see(impl.PlanCollect(w))
		see(impl.PlanAdd(w, outs[0].Path, outs[0].Tree, from))
		see(impl.PlanAdd(w, outs[1].Path, outs[1].Tree, from))
		see(impl.PlanInstall(w, name, outs))
		see(impl.PlanInstall(w, name, outs[:1]))
		see(impl.PlanInstall(w, name, outs[1:2]))
	}
	for i, stay := range stays {
		if !stay() {
			t.Error("an argument was changed:", i)
		}
	}
	for i, answer := range answers {
		if fmt.Sprint(answer) != befores[i] {
			t.Errorf("a later call changed %s to %v", befores[i], answer)
		}
		if !isNew(answer, append(slices.Clone(answers[:i]), answers[i+1:]...)...) {
			t.Errorf("%s shares memory with another answer", befores[i])
		}
	}
}

// What is written into an argument behind a call is not seen in its answer.
func TestWorldsDoNotHangOnWhatWasGiven(t *testing.T) {
	w, xs, outs := worldOf("a: b:a c: ; me:1 1a ; d:b ; me=b"), writesOf("finish d, begin f:a, switch me"), outsOf("1: 2:1")
	w, _ = roomyAll(w)
	behind, back, add, install, cuts := impl.RunWorld(w, xs, 3), impl.Recover(w), impl.PlanAdd(w, outs[0].Path, outs[0].Tree, ""), impl.PlanInstall(w, "me", outs), impl.PlanCollect(w)
	w.Store[0].Tree[0].Data, w.Store[1].Refs[0], w.Store[2] = "?", "?", impl.Item{}
	w.Profiles[0].Gens[0].Path, w.Pending[0].Tree[0].Path, w.Nexts[0] = "?", "?", impl.Next{}
	xs[1].Tree[0].Data, outs[0].Tree[0].Data, outs[1].Path = "?", "?", "?"
	if !same(behind, worldOf("a: b:a c: d:b ; me:2 1a 2b ; f:a")) || !same(back, worldOf("a: b:a c: ; me:1 1a")) {
		t.Error(behind, back)
	}
	if !same(add, writesOf("begin 1:, finish 1")) || !same(install, writesOf("begin 1:, finish 1, begin 2:1, finish 2, next me 2, switch me")) || !same(cuts, writesOf("cut c")) {
		t.Error(add, install, cuts)
	}
}
