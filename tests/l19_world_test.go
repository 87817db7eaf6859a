package tests

import (
	"fmt"
	"math"
	"slices"
	"strings"
	"testing"

	"loop.example/g00023/impl"
)

// worldOf makes "a:b b: ; me:1 1a ; c:a ; me=c" the world of a store, profiles, Pendings and Nexts.
func worldOf(row string) impl.World {
	parts := append(strings.Split(row, ";"), "", "", "")
	w := impl.World{Store: storeOf(parts[0]), Profiles: profilesOf(parts[1])}
	for word := range strings.FieldsSeq(parts[2]) {
		name, letters, _ := strings.Cut(word, ":")
		w.Pending = append(w.Pending, impl.Pending{Path: pathAt(name), Tree: treeAt(letters)})
	}
	for word := range strings.FieldsSeq(parts[3]) {
		name, path, _ := strings.Cut(word, "=")
		w.Nexts = append(w.Nexts, impl.Next{Name: name, Path: pathAt(path)})
	}
	return w
}

// writeOf reads "begin a:b", "finish a", "next me a", "switch me", "back me", "prune me 3" and "cut a".
func writeOf(row string) impl.Write {
	words := append(strings.Fields(row), "", "")
	name, letters, _ := strings.Cut(words[1], ":")
	switch words[0] {
	case "begin":
		return impl.Write{Kind: 1, Path: pathAt(name), Tree: treeAt(letters)}
	case "finish":
		return impl.Write{Kind: 2, Path: pathAt(name)}
	case "next":
		return impl.Write{Kind: 3, Name: name, Path: pathAt(words[2])}
	case "switch":
		return impl.Write{Kind: 4, Name: name}
	case "back":
		return impl.Write{Kind: 5, Name: name}
	case "prune":
		return impl.Write{Kind: 6, Name: name, N: numberAt(words[2])}
	case "cut":
		return impl.Write{Kind: 7, Path: pathAt(name)}
	}
	panic(row)
}

// writesOf reads such rows with commas between.
func writesOf(row string) []impl.Write {
	xs := []impl.Write{}
	for one := range strings.SplitSeq(row, ",") {
		if strings.TrimSpace(one) != "" {
			xs = append(xs, writeOf(one))
		}
	}
	return xs
}

func manyPendings(n int) []impl.Pending {
	pendings := []impl.Pending{}
	for i := range n {
		pendings = append(pendings, impl.Pending{Path: impl.Address("out", fmt.Sprint("q", i), nil), Tree: treeAt("")})
	}
	return pendings
}

func manyNexts(n int) []impl.Next {
	nexts := []impl.Next{}
	for i := range n {
		nexts = append(nexts, impl.Next{Name: fmt.Sprint("n", i), Path: impl.Address("out", fmt.Sprint("q", i), nil)})
	}
	return nexts
}

// worldCan asks every function, if it can't be: each has its one answer then.
func worldCan(t *testing.T, what string, w impl.World, want bool) {
	t.Helper()
	if plainWorldOk(w) != want {
		t.Errorf("%s: plain words do not say %v", what, want)
	}
	if impl.WorldOk(w) != want {
		t.Errorf("%s: a world? %v", what, !want)
	}
	if want {
		return
	}
	xs := writesOf("begin d:, finish d, next me d, switch me, back me, prune me 1, cut a, cut d")
	for _, x := range append(xs, impl.Write{}) {
		doIs(t, w, x, impl.World{})
	}
	for _, n := range []int64{-1, 0, 1, 2, 8, 9} {
		runIs(t, w, xs, n, impl.World{})
		runIs(t, w, nil, n, impl.World{})
	}
	recoverIs(t, w, impl.World{})
	planAddIs(t, w, pathAt("d"), treeAt(""), "", nil)
	installIs(t, w, "me", outsOf("d:"), nil)
	collectPlanIs(t, w, nil)
}

func doIs(t *testing.T, w impl.World, x impl.Write, want impl.World) {
	t.Helper()
	if plain := plainDo(w, x); !same(plain, want) {
		t.Errorf("%.600v, and %.200v: plain words:\n%.900v\nnot\n%.900v", w, x, plain, want)
	}
	if got := impl.DoWrite(w, x); !same(got, want) {
		t.Errorf("%.600v, and %.200v:\n%.900v\nnot\n%.900v", w, x, got, want)
	}
}

func runIs(t *testing.T, w impl.World, xs []impl.Write, n int64, want impl.World) {
	t.Helper()
	if plain := plainRun(w, xs, n); !same(plain, want) {
		t.Errorf("%.600v, and %d of %.600v: plain words:\n%.900v\nnot\n%.900v", w, n, xs, plain, want)
	}
	if got := impl.RunWorld(w, xs, n); !same(got, want) {
		t.Errorf("%.600v, and %d of %.600v:\n%.900v\nnot\n%.900v", w, n, xs, got, want)
	}
}

func recoverIs(t *testing.T, w impl.World, want impl.World) {
	t.Helper()
	if plain := plainRecover(w); !same(plain, want) {
		t.Errorf("%.600v recovered: plain words:\n%.900v\nnot\n%.900v", w, plain, want)
	}
	if got := impl.Recover(w); !same(got, want) {
		t.Errorf("%.600v recovered:\n%.900v\nnot\n%.900v", w, got, want)
	}
}

func TestLimitsAndKindsOfWorlds(t *testing.T) {
	kinds := []int64{impl.WriteBegin, impl.WriteFinish, impl.WriteNext, impl.WriteSwitch, impl.WriteBack, impl.WritePrune, impl.WriteCut}
	if !same(kinds, []int64{1, 2, 3, 4, 5, 6, 7}) || impl.MaxDeps != 20 || impl.MaxMany != 2000 {
		t.Error(kinds, impl.MaxDeps, impl.MaxMany)
	}
}

func TestWorldOk(t *testing.T) {
	for _, row := range []string{
		"", "a:", "a:b b: c:c", "a:b b:a", "; me:0", "a: ; me:1 1a", "a: b: ; me:2 1a 2b | you:0 1b", "a: ; me:0 1a 2a",
		// What has been begun may be there already, or refer to what is not there, or be there twice.
		"; ; a:", "; ; a:bcd", "a: ; ; a:", "a:b b: ; ; a:", "; ; a: a:", "; ; a: a:b a:", "; ; a:b b:a", "; ; a:a", "a:b ; ; b:",
		"; ; ; me=a", "a: ; ; ; me=a", "; ; ; me=a me=a", "; ; ; me=a me=b you=a", "; me:0 ; ; me=a",
		"a: b:a ; he:1 1a 2b | me:0 1b ; c:ab d:c ; me=c he=d",
	} {
		worldCan(t, row, worldOf(row), true)
	}
	long := strings.Repeat("x", 60)
	w := worldOf("a: ; me:1 1a ; b: ; me=b")
	w.Pending = append(w.Pending, impl.Pending{Path: wordAt("c") + "-" + long, Tree: entriesOf(manyKinds), From: pathAt("d.drv")}, impl.Pending{Path: pathAt("d"), From: pathAt("d")})
	w.Nexts = append(w.Nexts, impl.Next{Name: long, Path: wordAt("c") + "-" + long})
	worldCan(t, "long names, many kinds, no entries", w, true)
	w.Pending[1].Tree = manyEntries(500)
	worldCan(t, "as many entries as can be", w, true)
	w.Pending[1].Tree = []impl.Entry{{Path: "f", Kind: 2, Data: strings.Repeat("x", 20000)}}
	worldCan(t, "as much Data as can be", w, true)
}

func TestWorldsOfWhatIsNoStoreOrNoProfiles(t *testing.T) {
	w := worldOf("a: b:ac c: ; me:1 1a ; d: ; me=d")
	for what, spoil := range spoilings() {
		w.Store = changedStore(storeOf("a: 2:a3 3:"), func(st []impl.Item) { spoil(&st[0]) })
		worldCan(t, what, w, false)
	}
	for what, st := range map[string][]impl.Item{"the zero value": {{}}, "another order": append(storeOf("b:"), storeOf("a:")...), "one twice": slices.Repeat(storeOf("a:"), 2), "a reference less": append(storeOf("a:ab"), storeOf("b:")...), "what is referred to is not there": storeOf("a:b b:")[:1]} {
		worldCan(t, what, impl.World{Store: st}, false)
		worldCan(t, what+", with more", impl.World{Store: st, Pending: manyPendings(1), Nexts: manyNexts(1)}, false)
	}
	worldCan(t, "an item too many", impl.World{Store: manyItems(301)}, false)
	worldCan(t, "as many items as can be", impl.World{Store: manyItems(300)}, true)
	for _, row := range []string{"me:1", "me:2 1a", "me:0 0a", "me:0 2a 1a", "you:0 | me:0", "me:0 | me:0", "me:0 9007199254740993a"} {
		worldCan(t, row, impl.World{Store: storeOf("a:"), Profiles: profilesOf(row)}, false)
	}
	for _, name := range noNames() {
		worldCan(t, fmt.Sprintf("a profile %q", name), impl.World{Profiles: []impl.Profile{{Name: name}}}, false)
	}
}

func TestWorldsOfMaxGensAndMaxDeps(t *testing.T) {
	st := storeOf("a: b: c: d: f: g:")
	for n, want := range map[int]bool{0: true, 50: true, 51: false} {
		worldCan(t, fmt.Sprint(n, " Gens"), impl.World{Store: st, Profiles: []impl.Profile{{Name: "me", Gens: manyGens(n)}}}, want)
	}
	for n, want := range map[int]bool{0: true, 1: true, 19: true, 20: true, 21: false, 40: false} {
		worldCan(t, fmt.Sprint(n, " profiles"), impl.World{Store: st, Profiles: manyProfiles(n)}, want)
		worldCan(t, fmt.Sprint(n, " Pendings"), impl.World{Store: st, Pending: manyPendings(n)}, want)
		worldCan(t, fmt.Sprint(n, " Nexts"), impl.World{Store: st, Nexts: manyNexts(n)}, want)
		worldCan(t, fmt.Sprint(n, " times the same Pending"), impl.World{Pending: slices.Repeat(manyPendings(1), n)}, want)
		worldCan(t, fmt.Sprint(n, " times the same Next"), impl.World{Nexts: slices.Repeat(manyNexts(1), n)}, want)
	}
	worldCan(t, "all that can be", impl.World{Store: st, Profiles: manyProfiles(20), Pending: manyPendings(20), Nexts: manyNexts(20)}, true)
}

func TestWorldsWhoseGensAreNotThere(t *testing.T) {
	for _, row := range []string{
		"; me:1 1a", "; me:0 1a", "b: ; me:1 1a", "a: ; me:1 1a 2b", "a: ; me:1 1a 2b 3a", "b: ; me:2 1a 2b", "a: ; he:0 1a | me:0 1b", "b: ; he:0 1a | me:0 1b",
		// What has been begun is not there yet.
		"; me:1 1a ; a:", "; me:1 1a ; ; me=a", "b:a ; me:1 1a", "aa: ; me:1 1a", "a: ; me:1 1aa",
	} {
		worldCan(t, row, worldOf(row), false)
	}
}

// Each fault of what has been begun, at the first place, in the middle and at the last.
func TestWorldsWithOneFault(t *testing.T) {
	spoils := map[string]func(p *impl.Pending, n *impl.Next){
		"a Pending that is the zero value":         func(p *impl.Pending, n *impl.Next) { *p = impl.Pending{} },
		"a Next that is the zero value":            func(p *impl.Pending, n *impl.Next) { *n = impl.Next{} },
		"a From that is a word":                    func(p *impl.Pending, n *impl.Next) { p.From = wordAt("a") },
		"a From that is a name":                    func(p *impl.Pending, n *impl.Next) { p.From = "a.drv" },
		"a From that is a blank":                   func(p *impl.Pending, n *impl.Next) { p.From = " " },
		"a From with more behind":                  func(p *impl.Pending, n *impl.Next) { p.From = pathAt("a") + "!out" },
		"a Tree with another Kind":                 func(p *impl.Pending, n *impl.Next) { p.Tree[0].Kind = 4 },
		"a Tree with a Path that is none":          func(p *impl.Pending, n *impl.Next) { p.Tree[0].Path = "/f" },
		"a Tree with a Path in no directory":       func(p *impl.Pending, n *impl.Next) { p.Tree[0].Path = "d/f" },
		"a Tree of two files with one Path":        func(p *impl.Pending, n *impl.Next) { p.Tree = append(p.Tree, p.Tree[0]) },
		"a Tree with a directory that has Data":    func(p *impl.Pending, n *impl.Next) { p.Tree[0].Kind = 1 },
		"a Tree with an empty link":                func(p *impl.Pending, n *impl.Next) { p.Tree[0].Kind, p.Tree[0].Data = 3, "" },
		"a Tree with a link that is run":           func(p *impl.Pending, n *impl.Next) { p.Tree[0].Kind, p.Tree[0].Exec = 3, true },
		"a Tree with too much Data":                func(p *impl.Pending, n *impl.Next) { p.Tree[0].Data = strings.Repeat("x", 20001) },
		"a Tree with too many entries":             func(p *impl.Pending, n *impl.Next) { p.Tree = manyEntries(501) },
		"a Tree with an entry that is zero":        func(p *impl.Pending, n *impl.Next) { p.Tree = append(p.Tree, impl.Entry{}) },
		"a Tree in another order":                  func(p *impl.Pending, n *impl.Next) { p.Tree = append(p.Tree, entriesOf("a=x")...) },
		"a Tree with a file in which there is one": func(p *impl.Pending, n *impl.Next) { p.Tree = append(p.Tree, entriesOf("f/a=x")...) },
	}
	for _, path := range noAddresses() {
		spoils[fmt.Sprintf("a Pending's Path %q", path)] = func(p *impl.Pending, n *impl.Next) { p.Path = path }
		spoils[fmt.Sprintf("a Next's Path %q", path)] = func(p *impl.Pending, n *impl.Next) { n.Path = path }
		if path != "" {
			spoils[fmt.Sprintf("a From %q", path)] = func(p *impl.Pending, n *impl.Next) { p.From = path }
		}
	}
	for _, name := range noNames() {
		spoils[fmt.Sprintf("a Next's Name %q", name)] = func(p *impl.Pending, n *impl.Next) { n.Name = name }
	}
	for what, spoil := range spoils {
		for at := range 3 {
			w := worldOf("a: b:a ; me:1 1a ; a: c: d:a ; me=b me=d you=a")
			worldCan(t, "all is well", w, true)
			spoil(&w.Pending[at], &w.Nexts[at])
			worldCan(t, fmt.Sprint(what, " at ", at), w, false)
		}
	}
}

// writesAre are rows: a world, a write, the world behind it; "=" where that is the same.
func writesAre(t *testing.T, rows [][3]string) {
	t.Helper()
	for _, r := range rows {
		w, x := worldOf(r[0]), writeOf(r[1])
		worldCan(t, r[0], w, true)
		want := w
		if r[2] != "=" {
			want = worldOf(r[2])
			if same(want, w) {
				t.Errorf("%q changes nothing", r)
			}
		}
		worldCan(t, r[2], want, true)
		doIs(t, w, x, want)
		// What the Kind does not use changes nothing of it.
		x.Name, x.N = cmpOr(x.Name, "other"), x.N+map[bool]int64{true: 0, false: 77}[x.Kind == 6]
		if x.Kind != 1 {
			x.Tree, x.From = []impl.Entry{{}}, "none"
		}
		if x.Kind >= 4 && x.Kind <= 6 {
			x.Path = "none"
		}
		doIs(t, w, x, want)
	}
}

func cmpOr(text, other string) string {
	if text == "" {
		return other
	}
	return text
}

func TestWriteBegin(t *testing.T) {
	writesAre(t, [][3]string{
		{"", "begin a:", "; ; a:"}, {"; ; a:", "begin b:", "; ; a: b:"}, {"; ; b:", "begin a:", "; ; b: a:"}, {"; ; a:", "begin a:", "; ; a: a:"}, {"; ; a:b", "begin a:c", "; ; a:b a:c"},
		{"a:", "begin a:", "a: ; ; a:"}, {"a:b b:", "begin a:", "a:b b: ; ; a:"}, {"", "begin a:abc", "; ; a:abc"}, {"a:b", "begin b:", "a:b ; ; b:"},
		{"a: ; me:1 1a ; b: ; me=b", "begin c:ab", "a: ; me:1 1a ; b: c:ab ; me=b"},
	})
	for _, path := range noAddresses() {
		w := worldOf("a: ; ; b:")
		doIs(t, w, impl.Write{Kind: 1, Path: path, Tree: treeAt("")}, w)
		if path != "" {
			doIs(t, w, impl.Write{Kind: 1, Path: pathAt("c"), Tree: treeAt(""), From: path}, w)
		}
	}
	for _, tree := range [][]impl.Entry{{{}}, entriesOf("b=x a=x"), entriesOf("a/b=x"), manyEntries(501), {{Path: "f", Kind: 2, Data: strings.Repeat("x", 20001)}}} {
		w := worldOf("a: ; ; b:")
		doIs(t, w, impl.Write{Kind: 1, Path: pathAt("c"), Tree: tree}, w)
	}
	whole := impl.Write{Kind: 1, Path: pathAt("c"), Tree: entriesOf(manyKinds), From: pathAt("d.drv")}
	doIs(t, impl.World{}, whole, impl.World{Pending: []impl.Pending{{Path: pathAt("c"), Tree: whole.Tree, From: whole.From}}})
	doIs(t, impl.World{}, impl.Write{Kind: 1, Path: pathAt("c")}, impl.World{Pending: []impl.Pending{{Path: pathAt("c")}}})
	doIs(t, impl.World{Pending: manyPendings(19)}, writeOf("begin a:"), impl.World{Pending: append(manyPendings(19), worldOf("; ; a:").Pending...)})
	full := impl.World{Pending: manyPendings(20), Nexts: manyNexts(20)}
	doIs(t, full, writeOf("begin a:"), full)
	doIs(t, full, impl.Write{Kind: 1, Path: full.Pending[3].Path}, full)
}

func TestWriteFinish(t *testing.T) {
	writesAre(t, [][3]string{
		{"; ; a:", "finish a", "a:"}, {"; ; a: b:", "finish a", "a: ; ; b:"}, {"; ; b: a:", "finish a", "a: ; ; b:"}, {"b: ; ; a:b", "finish a", "a:b b:"}, {"; ; a:a", "finish a", "a:a"},
		// None of that Path.
		{"", "finish a", "="}, {"a:", "finish a", "="}, {"; ; a:", "finish b", "="}, {"; ; a:", "finish aa", "="}, {"; ; aa:", "finish a", "="}, {"; ; ; me=a", "finish a", "="},
		// Of several the last counts, whether it can be added or not, and all go.
		{"; ; a:b a:c", "finish a", "a:c"}, {"; ; a:b c: a:", "finish a", "a: ; ; c:"}, {"; ; a: b: a: b: a:b", "finish a", "a:b ; ; b: b:"}, {"; ; a:b a:b", "finish a", "a:b"},
		{"a:b b: ; ; a:b a:", "finish a", "a:b b:"}, {"a:b b: ; ; a: a:b c:", "finish a", "a:b b: ; ; c:"},
		// There already, with the same Sum and with another one.
		{"a: ; ; a:", "finish a", "a:"}, {"a:b b: ; ; a:b", "finish a", "a:b b:"}, {"a:b b: ; ; a:", "finish a", "a:b b:"}, {"a: ; ; a:a", "finish a", "a:"}, {"a: ; me:1 1a ; a:b b:", "finish a", "a: ; me:1 1a ; b:"},
		// What it refers to lacks: it is no reference, and what lacks can't come then.
		{"; ; a:b", "finish a", "a:b"}, {"; ; a:b b:", "finish a", "a:b ; ; b:"}, {"a:b ; ; b:", "finish b", "a:b"}, {"a:b ; ; b: b: c:", "finish b", "a:b ; ; c:"}, {"a:b c: ; ; b:c", "finish b", "a:b c:"},
		{"a:a ; ; aa:", "finish aa", "a:a"}, {"a: ; ; aa:a", "finish aa", "a: aa:a"}, {"b: ; ; a:b c:ab", "finish c", "b: c:ab ; ; a:b"}, {"b: c:ab ; ; a:b", "finish a", "b: c:ab"},
		{"a: ; me:1 1a ; b:a c: ; me=b you=c", "finish b", "a: b:a ; me:1 1a ; c: ; me=b you=c"},
	})
	w := impl.World{Pending: []impl.Pending{{Path: pathAt("a"), Tree: entriesOf(manyKinds), From: pathAt("d.drv")}}}
	doIs(t, w, writeOf("finish a"), impl.World{Store: plainStore(impl.Item{Path: pathAt("a"), Tree: entriesOf(manyKinds), From: pathAt("d.drv")})})
	// A From is not part of a Sum: what is there stays as it is.
	there := impl.World{Store: plainStore(impl.Item{Path: pathAt("a"), Tree: entriesOf(manyKinds), From: pathAt("c.drv")})}
	w.Store = there.Store
	doIs(t, w, writeOf("finish a"), there)
}

func TestFinishInAStoreThatIsFull(t *testing.T) {
	full := impl.World{Store: manyItems(300)}
	begun := impl.World{Store: full.Store, Pending: worldOf("; ; a: b: a:").Pending}
	left := impl.World{Store: full.Store, Pending: worldOf("; ; b:").Pending}
	doIs(t, begun, writeOf("finish a"), left)
	room := impl.World{Store: manyItems(299), Pending: begun.Pending}
	more, code := impl.AddItem(room.Store, pathAt("a"), treeAt(""), "")
	if code != impl.StoreAdded {
		t.Fatal(code)
	}
	doIs(t, room, writeOf("finish a"), impl.World{Store: more, Pending: left.Pending})
	again := full.Store[7]
	begun.Pending = []impl.Pending{{Path: again.Path, Tree: again.Tree}}
	doIs(t, begun, impl.Write{Kind: 2, Path: again.Path}, full)
}

func TestWriteNext(t *testing.T) {
	writesAre(t, [][3]string{
		{"", "next me a", "; ; ; me=a"}, {"a:", "next me a", "a: ; ; ; me=a"}, {"; ; ; me=a", "next me a", "; ; ; me=a me=a"}, {"; ; ; you=a", "next me b", "; ; ; you=a me=b"}, {"; ; ; me=a", "next he b", "; ; ; me=a he=b"},
		{"a: b: ; me:1 1a 2b ; c: ; he=a", "next me a", "a: b: ; me:1 1a 2b ; c: ; he=a me=a"},
	})
	w := worldOf("a: ; me:1 1a ; ; me=a")
	for _, path := range noAddresses() {
		doIs(t, w, impl.Write{Kind: 3, Name: "me", Path: path}, w)
	}
	for _, name := range noNames() {
		doIs(t, w, impl.Write{Kind: 3, Name: name, Path: pathAt("a")}, w)
	}
	doIs(t, impl.World{Nexts: manyNexts(19)}, writeOf("next me a"), impl.World{Nexts: append(manyNexts(19), worldOf("; ; ; me=a").Nexts...)})
	full := impl.World{Pending: manyPendings(20), Nexts: manyNexts(20)}
	doIs(t, full, writeOf("next me a"), full)
	doIs(t, full, impl.Write{Kind: 3, Name: full.Nexts[2].Name, Path: full.Nexts[2].Path}, full)
}

func TestWriteSwitch(t *testing.T) {
	writesAre(t, [][3]string{
		{"a: ; ; ; me=a", "switch me", "a: ; me:1 1a"}, {"a: b: ; me:1 1a ; ; me=b", "switch me", "a: b: ; me:2 1a 2b"}, {"a: b: ; me:1 1a ; ; you=b", "switch you", "a: b: ; me:1 1a | you:1 1b"},
		{"a: b: ; me:1 1a 2b ; ; me=b", "switch me", "a: b: ; me:3 1a 2b 3b"}, {"a: ; me:0 1a ; ; me=a", "switch me", "a: ; me:2 1a 2a"},
		// None of that Name.
		{"a:", "switch me", "="}, {"a: ; me:1 1a", "switch me", "="}, {"a: ; ; ; you=a", "switch me", "="}, {"a: ; ; ; me=a", "switch m", "="}, {"a: ; ; ; m=a", "switch me", "="}, {"a: ; ; a:", "switch me", "="},
		// Of several the last counts, and all go.
		{"a: b: ; ; ; me=a me=b", "switch me", "a: b: ; me:1 1b"}, {"a: b: ; ; ; me=a you=b me=b he=a", "switch me", "a: b: ; me:1 1b ; ; you=b he=a"}, {"a: ; ; ; me=b me=a", "switch me", "a: ; me:1 1a"}, {"a: ; ; ; me=a me=a", "switch me", "a: ; me:1 1a"},
		// It is not in the store: the Nexts go.
		{"; ; ; me=a", "switch me", ""}, {"a: ; ; ; me=a me=b", "switch me", "a:"}, {"a: ; me:1 1a ; b: ; you=b me=b", "switch me", "a: ; me:1 1a ; b: ; you=b"}, {"b:a ; ; ; me=a", "switch me", "b:a"}, {"aa: ; ; ; me=a", "switch me", "aa:"}, {"; ; a: ; me=a", "switch me", "; ; a:"},
		// It has that path already.
		{"a: ; me:1 1a ; ; me=a", "switch me", "a: ; me:1 1a"}, {"a: b: ; me:1 1a 2b ; ; me=a", "switch me", "a: b: ; me:1 1a 2b"},
	})
}

// What Switch refuses leaves the profiles as they are; the Nexts go, as where the path is not there.
func TestSwitchThatIsRefused(t *testing.T) {
	st := storeOf("a: b: c: d: f: g: 9:")
	ps := []impl.Profile{{Name: "me", Now: 50, Gens: manyGens(50)}}
	w := impl.World{Store: st, Profiles: ps, Nexts: worldOf("; ; ; me=9 you=9").Nexts}
	doIs(t, w, writeOf("switch me"), impl.World{Store: st, Profiles: ps, Nexts: w.Nexts[1:]})
	doIs(t, w, writeOf("switch you"), impl.World{Store: st, Profiles: append(slices.Clone(ps), impl.Profile{Name: "you", Now: 1, Gens: []impl.Gen{{N: 1, Path: pathAt("9")}}}), Nexts: w.Nexts[:1]})
	w.Profiles = manyProfiles(20)
	doIs(t, w, writeOf("switch me"), impl.World{Store: st, Profiles: manyProfiles(20), Nexts: w.Nexts[1:]})
	w.Profiles = profilesOf("me:1 1a 9007199254740992b")
	doIs(t, w, writeOf("switch me"), impl.World{Store: st, Profiles: w.Profiles, Nexts: w.Nexts[1:]})
}

func TestWriteBackAndWritePrune(t *testing.T) {
	writesAre(t, [][3]string{
		{"a: b: ; me:2 1a 2b", "back me", "a: b: ; me:1 1a 2b"}, {"a: b: ; he:2 1a 2b | me:3 1a 2b 3a", "back me", "a: b: ; he:2 1a 2b | me:2 1a 2b 3a"}, {"a: b: ; me:2 1a 2b ; c: ; me=a", "back me", "a: b: ; me:1 1a 2b ; c: ; me=a"},
		{"", "back me", "="}, {"a: ; me:1 1a", "back me", "="}, {"a: b: ; me:1 1a 2b", "back me", "="}, {"a: ; me:0 1a", "back me", "="}, {"; me:0", "back me", "="}, {"a: b: ; me:2 1a 2b", "back you", "="}, {"a: b: ; me:2 1a 2b", "back .", "="}, {"a: ; ; ; me=a", "back me", "="},
		{"a: b: ; me:2 1a 2b", "prune me 1", "a: b: ; me:2 2b"}, {"a: b: ; me:1 1a 2b", "prune me 0", "a: b: ; me:1 1a"}, {"a: b: ; me:0 1a 2b", "prune me 0", "a: b: ; me:0"}, {"a: b: c: ; me:2 1a 2b 3c | you:0 1a 2b", "prune you 1", "a: b: c: ; me:2 1a 2b 3c | you:0 2b"}, {"a: b: ; me:0 1a 2b ; c:a ; me=b", "prune me 0", "a: b: ; me:0 ; c:a ; me=b"},
		{"", "prune me 0", "="}, {"a: b: ; me:2 1a 2b", "prune me 2", "="}, {"a: b: ; me:2 1a 2b", "prune me 9223372036854775807", "="}, {"a: b: ; me:2 1a 2b", "prune me -1", "="}, {"a: b: ; me:2 1a 2b", "prune me -9223372036854775808", "="}, {"a: b: ; me:2 1a 2b", "prune you 0", "="}, {"a: b: ; me:1 1a 2b", "prune me 1", "="}, {"a: ; me:1 1a", "prune me 0", "="},
	})
}

func TestWriteCut(t *testing.T) {
	writesAre(t, [][3]string{
		{"a:", "cut a", ""}, {"a: b: c:", "cut b", "a: c:"}, {"a:b b:", "cut a", "b:"}, {"a: b: ; me:1 1a", "cut b", "a: ; me:1 1a"}, {"a: b: ; me:0 ; c: d:c ; me=c", "cut b", "a: ; me:0 ; c: d:c ; me=c"},
		// What refers to itself alone goes, and what refers to others too.
		{"a:a", "cut a", ""}, {"a:ab b:", "cut a", "b:"}, {"a: b:b ; me:1 1a", "cut b", "a: ; me:1 1a"}, {"a:x", "cut a", ""},
		// What is not there.
		{"", "cut a", "="}, {"b:", "cut a", "="}, {"aa:", "cut a", "="}, {"a:", "cut aa", "="}, {"b:a", "cut a", "="}, {"; ; a:", "cut a", "="}, {"; ; ; me=a", "cut a", "="},
		// What a profile needs, whichever Gen is set.
		{"a: ; me:1 1a", "cut a", "="}, {"a: ; me:0 1a", "cut a", "="}, {"a: b: ; me:2 1a 2b", "cut a", "="}, {"a: b: ; me:1 1a 2b", "cut b", "="}, {"a: b:a ; me:1 1b", "cut a", "="}, {"a: b:a c:b ; me:1 1c", "cut a", "="}, {"a: b: ; he:0 | me:1 1a | you:1 1b", "cut b", "="}, {"a:a ; me:1 1a", "cut a", "="},
		// What a Next or a Pending is, and what they need.
		{"a: ; ; ; me=a", "cut a", "="}, {"a: b: ; ; ; me=b me=a", "cut a", "="}, {"a: b: ; ; ; me=b me=a", "cut b", "="}, {"a: b:a ; ; ; me=b", "cut a", "="}, {"a: ; ; a:", "cut a", "="}, {"a: ; ; b: a:x", "cut a", "="}, {"a: b:a ; ; b:", "cut a", "="},
		{"a: ; ; b:a", "cut a", "="}, {"a: ; ; b: c:bxa", "cut a", "="}, {"a: b:a ; ; c:b", "cut a", "="}, {"a: b:a ; ; c:b", "cut b", "="}, {"a: aa: ; ; b:a", "cut aa", "="}, {"a: aa: ; ; a:", "cut aa", "a: ; ; a:"}, {"a: b: ; ; c:b", "cut a", "b: ; ; c:b"}, {"a: b: ; ; ; me=b", "cut a", "b: ; ; ; me=b"},
		// What another item refers to, if that is needed or not.
		{"a: b:a", "cut a", "="}, {"a: b:a", "cut b", "a:"}, {"a:b b:a", "cut a", "="}, {"a:b b:a", "cut b", "="}, {"a:b b:c c:a", "cut b", "="}, {"a: b:a ; me:1 1a", "cut b", "a: ; me:1 1a"}, {"a:b b:a c:a ; me:0", "cut c", "a:b b:a ; me:0"}, {"a: aa: b:a", "cut aa", "="},
	})
	for _, path := range noAddresses() {
		w := worldOf("a:b b: ; me:1 1b ; c: ; me=b")
		doIs(t, w, impl.Write{Kind: 7, Path: path}, w)
	}
}

// A word in a file's or link's Data keeps what has it; a piece of one, or one in a Path, does not.
func TestCutsAndWords(t *testing.T) {
	word := wordAt("a")
	trees := map[string]bool{"f=" + word: true, "f=x" + word + "x": true, "f>" + word: true, "f*" + word: true, "d/ d/f=" + word: true, "f=x g=" + word: true, "f=" + word[1:]: false, word + "=x": false, word + "/": false, "f=" + word[1:] + "- g=a": false, "f=" + strings.ToUpper(word): false, "f=" + strings.Repeat("x", 300) + word: true}
	for row, isKept := range trees {
		w := worldOf("a: b:")
		w.Pending = []impl.Pending{{Path: pathAt("c"), Tree: entriesOf(row)}}
		want := w
		if !isKept {
			want.Store = storeOf("b:")
		}
		doIs(t, w, writeOf("cut a"), want)
	}
}

// So many references that they are more than MaxMany in all, each of which counts.
func TestCutsWithMorePendingReferencesThanMaxMany(t *testing.T) {
	st, cuts := manyItems(300), []impl.Write{}
	w := impl.World{Store: st, Pending: manyPendings(20), Nexts: manyNexts(20)}
	data := ""
	for _, path := range plainPathsIn(st) {
		cuts = append(cuts, impl.Write{Kind: 7, Path: path})
		data += path[:13]
	}
	for i := range w.Pending {
		w.Pending[i].Tree = []impl.Entry{{Path: "f", Kind: 2, Data: data[:299*13]}}
	}
	left := w
	left.Store = st[:299]
	doIs(t, w, cuts[150], w)
	doIs(t, w, cuts[299], left)
	if got := impl.RunWorld(w, cuts[:299], 299); !same(got, w) {
		t.Error(len(got.Store), "are left")
	}
	if got := impl.PlanCollect(w); !same(got, cuts[299:]) {
		t.Error(len(got), "go")
	}
	if got := impl.PlanCollect(left); len(got) > 0 {
		t.Error(len(got), "go")
	}
}

func TestWritesOfOtherKinds(t *testing.T) {
	w := worldOf("a: b:a c: ; me:2 1a 2b ; d: ; me=b")
	x := impl.Write{Name: "me", Path: pathAt("d"), Tree: treeAt(""), N: 1}
	for _, kind := range []int64{0, -1, 8, 9, 10, 100, 1 << 32, 1<<32 + 1, 1<<32 + 7, 257, math.MaxInt64, math.MinInt64, -7} {
		x.Kind = kind
		doIs(t, w, x, w)
		doIs(t, impl.World{}, x, impl.World{})
	}
}

func TestRecover(t *testing.T) {
	for _, r := range [][2]string{
		{"", ""}, {"a:b b:", "a:b b:"}, {"; ; a:", ""}, {"; ; ; me=a", ""}, {"a: ; me:1 1a ; a: b:a b: ; me=a he=b", "a: ; me:1 1a"}, {"a: b: ; me:2 1a 2b | you:0", "a: b: ; me:2 1a 2b | you:0"},
	} {
		recoverIs(t, worldOf(r[0]), worldOf(r[1]))
		recoverIs(t, worldOf(r[1]), worldOf(r[1]))
	}
	recoverIs(t, impl.World{Store: manyItems(300), Pending: manyPendings(20), Nexts: manyNexts(20)}, impl.World{Store: manyItems(300)})
}

func TestRunWorld(t *testing.T) {
	xs := writesOf("begin a:, finish a, next me a, switch me, begin b:a, finish b, next me b, switch me, back me, prune me 0, cut b, cut a")
	worlds := []string{
		"", "; ; a:", "a:", "a: ; ; ; me=a", "a: ; me:1 1a", "a: ; me:1 1a ; b:a", "a: b:a ; me:1 1a", "a: b:a ; me:1 1a ; ; me=b", "a: b:a ; me:2 1a 2b", "a: b:a ; me:1 1a 2b", "a: b:a ; me:1 1a", "a: ; me:1 1a", "a: ; me:1 1a",
	}
	for n, row := range worlds {
		runIs(t, impl.World{}, xs, int64(n), worldOf(row))
		for from := range n + 1 { // in two parts it is the same
			runIs(t, worldOf(worlds[from]), xs[from:], int64(n-from), worldOf(row))
		}
	}
	last := worldOf(worlds[12])
	for _, n := range []int64{13, 14, 1000, 2000, 2001, 1 << 32, math.MaxInt64} {
		runIs(t, impl.World{}, xs, n, last)
		runIs(t, last, nil, n, last)
	}
	for _, n := range []int64{0, -1, -2, -12, -1 << 32, math.MinInt64} {
		runIs(t, impl.World{}, xs, n, impl.World{})
		runIs(t, last, xs, n, last)
	}
}

func TestRunWorldOfMaxMany(t *testing.T) {
	xs := slices.Repeat(writesOf("next me a, next you a, switch me, switch you"), 500)
	xs[1998], xs[1999] = writeOf("switch you"), writeOf("next he a")
	w := worldOf("a: ; me:1 1a")
	runIs(t, w, xs, 2000, worldOf("a: ; me:1 1a | you:1 1a ; ; me=a he=a"))
	runIs(t, w, xs, 1999, worldOf("a: ; me:1 1a | you:1 1a ; ; me=a"))
	runIs(t, w, xs, 5000, worldOf("a: ; me:1 1a | you:1 1a ; ; me=a he=a"))
	more := append(slices.Clone(xs), impl.Write{})
	for _, n := range []int64{-1, 0, 1, 2000, 2001, 5000} {
		runIs(t, w, more, n, impl.World{})
	}
	runIs(t, w, make([]impl.Write, 2000), 2000, w)
	runIs(t, w, make([]impl.Write, 2001), 2001, impl.World{})
}
