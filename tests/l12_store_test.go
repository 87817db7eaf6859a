package tests

import (
	"fmt"
	"math/rand"
	"slices"
	"strings"
	"testing"

	"loop.example/g00023/impl"
)

// wordAt has the letter thirteen times, pathAt the name behind that: names with one first letter have one word.
func wordAt(letter string) string { return strings.Repeat(letter[:1], 13) }

func pathAt(name string) string { return wordAt(name) + "-" + name }

func pathsAt(row string) []string {
	paths := []string{}
	for _, name := range strings.Fields(row) {
		paths = append(paths, pathAt(name))
	}
	return paths
}

// treeAt is a file that holds the words of these letters.
func treeAt(letters string) []impl.Entry {
	data := "see"
	for i := range len(letters) {
		data += " " + wordAt(letters[i:])
	}
	return []impl.Entry{{Path: "f", Kind: 2, Data: data}}
}

// storeOf makes "1:23 2:" the store of 1, of which the tree holds the words of 2 and 3, and of 2.
func storeOf(row string) []impl.Item {
	items := []impl.Item{}
	for _, word := range strings.Fields(row) {
		name, letters, _ := strings.Cut(word, ":")
		items = append(items, impl.Item{Path: pathAt(name), Tree: treeAt(letters)})
	}
	return plainStore(items...)
}

// changedStore changes a copy, of which no list is the old one's.
func changedStore(st []impl.Item, change func(st []impl.Item)) []impl.Item {
	st, _ = roomyAll(st)
	change(st)
	return st
}

func manyItems(n int) []impl.Item {
	items := []impl.Item{}
	for i := range n {
		items = append(items, impl.Item{Path: impl.Address("out", fmt.Sprint("p", i), nil), Tree: treeAt("")})
	}
	return plainStore(items...)
}

func storeCan(t *testing.T, what string, st []impl.Item, want bool) {
	t.Helper()
	if plainStoreOk(st) != want {
		t.Errorf("%s: plain words do not say %v", what, want)
	}
	if impl.StoreOk(st) != want {
		t.Errorf("%s: a store? %v", what, !want)
	}
	if want {
		return
	}
	more, code := impl.AddItem(st, pathAt("z"), nil, "")
	if len(more) > 0 || code != impl.StoreArgs {
		t.Errorf("%s: AddItem: %d items, %d", what, len(more), code)
	}
	paths := plainPathsIn(st)
	if len(impl.Closure(st, paths[:1])) > 0 || len(impl.UsedBy(st, paths[0])) > 0 || impl.Optimise(st) != -1 {
		t.Errorf("%s: Closure, UsedBy or Optimise find something", what)
	}
	if left, ok := impl.Without(st, nil); len(left) > 0 || ok {
		t.Errorf("%s: Without: %d items, %v", what, len(left), ok)
	}
}

func addIs(t *testing.T, st []impl.Item, path string, tree []impl.Entry, from string, code int64) []impl.Item {
	t.Helper()
	want, plainCode := plainAdd(st, path, tree, from)
	if plainCode != code {
		t.Errorf("AddItem of %q: plain words say %d, not %d", path, plainCode, code)
	}
	got, gotCode := impl.AddItem(st, path, tree, from)
	if gotCode != code || !same(got, want) {
		t.Errorf("AddItem of %q: %d, not %d:\n%+v\nnot %+v", path, gotCode, code, got, want)
	}
	return got
}

func closureIs(t *testing.T, st []impl.Item, paths []string, want []string) {
	t.Helper()
	if plain := plainClosure(st, paths); !same(plain, want) {
		t.Errorf("plain words: the closure is %q, not %q", plain, want)
	}
	if got := impl.Closure(st, paths); !same(got, want) {
		t.Errorf("the closure of %d paths in %d items is %q, not %q", len(paths), len(st), got, want)
	}
}

func usedByIs(t *testing.T, st []impl.Item, path string, want []string) {
	t.Helper()
	if plain := plainUsedBy(st, path); !same(plain, want) {
		t.Errorf("plain words: %q is used by %q, not %q", path, plain, want)
	}
	if got := impl.UsedBy(st, path); !same(got, want) {
		t.Errorf("%q is used by %q, not %q", path, got, want)
	}
}

func withoutIs(t *testing.T, st []impl.Item, paths []string, want []impl.Item, ok bool) {
	t.Helper()
	if plain, plainOk := plainWithout(st, paths); plainOk != ok || !same(plain, want) {
		t.Errorf("plain words: without %d paths %v, not %v:\n%+v\nnot %+v", len(paths), plainOk, ok, plain, want)
	}
	if got, gotOk := impl.Without(st, paths); gotOk != ok || !same(got, want) {
		t.Errorf("without %d paths %v, not %v:\n%+v\nnot %+v", len(paths), gotOk, ok, got, want)
	}
}

func verifyIs(t *testing.T, what string, st []impl.Item, want ...string) {
	t.Helper()
	if plain := plainVerify(st); !same(plain, want) {
		t.Errorf("%s: plain words find %q, not %q", what, plain, want)
	}
	if got := impl.Verify(st); !same(got, want) {
		t.Errorf("%s: %q, not %q", what, got, want)
	}
}

func TestLimitsAndCodesOfStores(t *testing.T) {
	codes := []int64{impl.MaxItems, impl.StoreAdded, impl.StoreSame, impl.StoreOther, impl.StoreRefs, impl.StoreFull, impl.StoreArgs}
	if !same(codes, []int64{300, 0, 1, 2, 3, 4, 5}) {
		t.Error(codes)
	}
}

func TestStoreOk(t *testing.T) {
	for _, row := range []string{"", "1:", "1:1", "1: 2: 3:", "1:2 2:3 3:", "1:2 2:1", "1:12 2:12", "1:3 2:9", "1: 1b:1 1c:", "1:1 1b:2 2:1"} {
		storeCan(t, row, storeOf(row), true)
	}
	whole := impl.Item{Path: pathAt("1"), From: impl.Address("drv", "one.drv", nil), Tree: entriesOf(manyKinds)}
	storeCan(t, "a tree of many kinds", plainStore(whole), true)
	whole.Tree = nil
	storeCan(t, "an empty tree", plainStore(whole), true)
	whole.Tree = []impl.Entry{{Path: "d", Kind: 1}, {Path: "d/l", Kind: 3, Data: "to " + pathAt("1")}}
	if st := plainStore(whole); !same(st[0].Refs, pathsAt("1")) {
		t.Error("a reference in a link is none:", st[0].Refs)
	}
	storeCan(t, "a reference in a link", plainStore(whole), true)
	whole.Tree = []impl.Entry{{Path: wordAt("1"), Kind: 1}}
	storeCan(t, "a word in a Path", plainStore(whole), true)
}

// spoilings are the faults that an item can have; each is done to the item at 1 in a store of "1: 2:13 3:".
func spoilings() map[string]func(item *impl.Item) {
	return map[string]func(item *impl.Item){
		"a Path that is empty":               func(item *impl.Item) { item.Path = "" },
		"a Path that is a word":              func(item *impl.Item) { item.Path = wordAt("2") },
		"a Path without a name":              func(item *impl.Item) { item.Path = wordAt("2") + "-" },
		"a Path that is a name":              func(item *impl.Item) { item.Path = "2" },
		"a Path with a great name":           func(item *impl.Item) { item.Path += strings.Repeat("x", 60) },
		"a Path with another letter":         func(item *impl.Item) { item.Path = "222222222222e-2" },
		"a Path with a blank":                func(item *impl.Item) { item.Path += " " },
		"a Sum that is empty":                func(item *impl.Item) { item.Sum = "" },
		"a Sum of another tree":              func(item *impl.Item) { item.Sum = plainTreeSum(treeAt("")) },
		"a Sum with more behind":             func(item *impl.Item) { item.Sum += "0" },
		"a Sum that is too short":            func(item *impl.Item) { item.Sum = item.Sum[:12] },
		"a Sum of thirteen zeros":            func(item *impl.Item) { item.Sum = wordAt("0") },
		"a Sum with bytes of zero":           func(item *impl.Item) { item.Sum = strings.Repeat("\x00", 13) },
		"a Sum in great letters":             func(item *impl.Item) { item.Sum = "A" + item.Sum[1:] },
		"a Sum of which the last is another": func(item *impl.Item) { item.Sum = item.Sum[:12] + "!" },
		"no Refs":                            func(item *impl.Item) { item.Refs = nil },
		"Refs that lack the first":           func(item *impl.Item) { item.Refs = item.Refs[1:] },
		"Refs that lack the last":            func(item *impl.Item) { item.Refs = item.Refs[:1] },
		"Refs with itself too":               func(item *impl.Item) { item.Refs = pathsAt("1 2 3") },
		"Refs with one that is not there":    func(item *impl.Item) { item.Refs = pathsAt("1 3 4") },
		"Refs with an empty one":             func(item *impl.Item) { item.Refs = append([]string{""}, item.Refs...) },
		"Refs in another order":              func(item *impl.Item) { slices.Reverse(item.Refs) },
		"Refs with one twice":                func(item *impl.Item) { item.Refs = pathsAt("1 1 3") },
		"Refs that are words":                func(item *impl.Item) { item.Refs = []string{wordAt("1"), wordAt("3")} },
		"a From that is a word":              func(item *impl.Item) { item.From = wordAt("1") },
		"a From that is a name":              func(item *impl.Item) { item.From = "1.drv" },
		"a From that is a blank":             func(item *impl.Item) { item.From = " " },
		"a Tree with another Data":           func(item *impl.Item) { item.Tree[0].Data += "." },
		"a Tree with another Exec":           func(item *impl.Item) { item.Tree[0].Exec = true },
		"a Tree with another Path":           func(item *impl.Item) { item.Tree[0].Path = "g" },
		"a Tree that is empty":               func(item *impl.Item) { item.Tree = nil },
		"a Tree that is none, by its Kind":   func(item *impl.Item) { item.Tree[0].Kind = 0 },
		"a Tree that is none, and no Sum":    func(item *impl.Item) { item.Tree[0].Kind, item.Sum = 4, "" },
		"a Tree that is none, with its Sum":  func(item *impl.Item) { item.Tree[0].Path = "/"; item.Sum = plainTreeSum(item.Tree) },
		"a Tree of two files with one Path":  func(item *impl.Item) { item.Tree = append(item.Tree, item.Tree...); item.Sum = plainTreeSum(item.Tree) },
		"a Tree with too much Data": func(item *impl.Item) {
			item.Tree[0].Data += strings.Repeat("x", 20001-len(item.Tree[0].Data))
			item.Sum = plainTreeSum(item.Tree)
		},
		"a Tree with too many entries": func(item *impl.Item) {
			item.Tree = manyEntries(501)
			item.Sum, item.Refs = plainTreeSum(item.Tree), nil
		},
	}
}

func TestStoresWithOneFault(t *testing.T) {
	for what, spoil := range spoilings() {
		st := changedStore(storeOf("1: 2:13 3:"), func(st []impl.Item) { spoil(&st[1]) })
		storeCan(t, what, st, false)
		verifyIs(t, what, st, st[1].Path)
	}
	full := changedStore(storeOf("1: 2:13 3:"), func(st []impl.Item) {
		st[1].Tree = []impl.Entry{{Path: "f", Kind: 2, Data: strings.Repeat("x", 20000-26) + wordAt("1") + wordAt("3")}}
		st[1].Sum = plainTreeSum(st[1].Tree)
	})
	storeCan(t, "as much Data as can be", full, true)
	full[1].Tree = manyEntries(500)
	full[1].Tree[499].Data = wordAt("1") + wordAt("3")
	full[1].Sum = plainTreeSum(full[1].Tree)
	storeCan(t, "as many entries as can be", full, true)
	full[1].From = impl.Address("drv", strings.Repeat("x", 60), nil)
	storeCan(t, "a From with as great a name as can be", full, true)
}

func TestStoresThatAreNoneTogether(t *testing.T) {
	st := storeOf("1: 2:13 3:")
	slices.Reverse(st)
	storeCan(t, "in another order", st, false)
	verifyIs(t, "in another order", st)
	one := storeOf("1: 2:13 3:")
	storeCan(t, "one twice", slices.Insert(one, 1, one[1]), false)
	verifyIs(t, "one twice", slices.Insert(one, 1, one[1]), pathAt("2"))
	verifyIs(t, "one twice, apart", append(one, one[0]), pathAt("1"))
	verifyIs(t, "one thrice", append(one, one[0], one[0]), pathAt("1"), pathAt("1"))
	other := storeOf("1:3 3:")
	verifyIs(t, "one Path with two trees", append(one, other[0]), pathAt("1"))
	storeCan(t, "what is referred to is not there", slices.Delete(storeOf("1: 2:13 3:"), 2, 3), false)
	more := storeOf("1: 2:13 3:")[:2]
	more = append(more, storeOf("4:")...)
	storeCan(t, "another one in its place", more, false)
	verifyIs(t, "another one in its place", more, pathAt("2"))
	lacking := append(storeOf("1:12"), storeOf("2:")...)
	storeCan(t, "what is there is not referred to", lacking, false)
	verifyIs(t, "what is there is not referred to", lacking, pathAt("1"))
	alike := append(storeOf("1:1"), storeOf("1b:")...)
	storeCan(t, "one more with the same word", alike, false)
	verifyIs(t, "one more with the same word", alike, pathAt("1"))
}

func TestStoresOfMaxItems(t *testing.T) {
	for _, n := range []int{0, 1, 299, 300} {
		storeCan(t, fmt.Sprint(n), manyItems(n), true)
	}
	most := manyItems(300)
	verifyIs(t, "as many as can be", most)
	most[299].Sum = ""
	verifyIs(t, "as many as can be, the last one with a fault", most, most[299].Path)
	tooMany := manyItems(301)
	storeCan(t, "one too many", tooMany, false)
	tooMany[0].Sum = ""
	verifyIs(t, "one too many, with a fault", tooMany)
}

func TestAddItem(t *testing.T) {
	from := impl.Address("drv", "a.drv", nil)
	for _, r := range []struct {
		store, name, letters string
		code                 int64
		want                 string
	}{
		{"", "1", "", 0, "1:"},
		{"", "1", "1", 0, "1:1"},
		{"", "1", "2", 0, "1:2"},
		{"1:", "2", "1", 0, "1: 2:1"},
		{"2:", "1", "2", 0, "1:2 2:"},
		{"1: 3:", "2", "1239", 0, "1: 2:1239 3:"},
		{"1: 3:13", "2", "", 0, "1: 2: 3:13"},
		{"1: 1c:", "1b", "1", 0, "1: 1b:1 1c:"},
		{"1:2", "1", "2", 1, ""},
		{"1:1 2:1", "2", "1", 1, ""},
		{"1:2", "1", "", 2, ""},
		{"1:1 2:1", "1", "", 2, ""},
		{"1:2", "2", "", 3, ""},
		{"1:2 3:", "2", "1", 3, ""},
		{"1: 3:2", "2", "", 3, ""},
		{"1:2 3:2", "2", "", 3, ""},
		{"1:1", "1b", "", 3, ""},
		{"1: 2:1", "1b", "1", 3, ""},
		{"1:2", "3", "", 0, "1:2 3:"},
		{"1:2", "3", "2", 0, "1:2 3:2"},
	} {
		st := storeOf(r.store)
		got := addIs(t, st, pathAt(r.name), treeAt(r.letters), "", r.code)
		want := st
		if r.code == 0 {
			want = storeOf(r.want)
		}
		if !same(got, want) {
			t.Errorf("%s with %s:%s more: %+v", r.store, r.name, r.letters, got)
		}
		if r.code > 0 {
			continue
		}
		added := got[plainItemAt(got, pathAt(r.name))]
		if added.Sum != impl.TreeSum(treeAt(r.letters)) || !same(added.Refs, impl.RefsIn(treeAt(r.letters), plainPathsIn(got))) {
			t.Errorf("%s with %s:%s more: %+v", r.store, r.name, r.letters, added)
		}
		addIs(t, st, pathAt(r.name), treeAt(r.letters), from, 0)
	}
}

func TestAddItemOfWhatIsThereWithAnotherFrom(t *testing.T) {
	from, other := impl.Address("drv", "a.drv", nil), impl.Address("drv", "b.drv", nil)
	st := addIs(t, nil, pathAt("1"), treeAt(""), from, 0)
	for _, again := range []string{from, other, ""} {
		st = addIs(t, st, pathAt("1"), treeAt(""), again, 1)
		addIs(t, st, pathAt("1"), treeAt("1"), again, 2)
	}
	if len(st) != 1 || st[0].From != from {
		t.Errorf("%+v", st)
	}
}

func TestAddItemOfPlacesForWords(t *testing.T) {
	word := wordAt("2")
	for _, r := range []struct {
		e    impl.Entry
		code int64
	}{
		{impl.Entry{Path: "f", Kind: 2, Data: word}, 3},
		{impl.Entry{Path: "f", Kind: 2, Data: word, Exec: true}, 3},
		{impl.Entry{Path: "f", Kind: 3, Data: word}, 3},
		{impl.Entry{Path: "f", Kind: 2, Data: "xx" + word + "xx"}, 3},
		{impl.Entry{Path: "f", Kind: 2, Data: word + "-other"}, 3},
		{impl.Entry{Path: "f", Kind: 2, Data: strings.Repeat("x", 20000-13) + word}, 3},
		{impl.Entry{Path: word, Kind: 2}, 0},
		{impl.Entry{Path: word, Kind: 1}, 0},
		{impl.Entry{Path: "f", Kind: 2, Data: word[1:]}, 0},
		{impl.Entry{Path: "f", Kind: 2, Data: word[1:] + " " + word[1:]}, 0},
	} {
		st := addIs(t, nil, pathAt("1"), []impl.Entry{r.e}, "", 0)
		addIs(t, st, pathAt("2"), treeAt(""), "", r.code)
	}
	apart := addIs(t, nil, pathAt("1"), []impl.Entry{{Path: "a", Kind: 2, Data: word[:7]}, {Path: "b", Kind: 2, Data: word[7:]}}, "", 0)
	addIs(t, apart, pathAt("2"), treeAt(""), "", 0)
}

func TestAddItemOfWhatCanNotBe(t *testing.T) {
	st := storeOf("1: 2:1")
	for _, path := range []string{"", "3", wordAt("3"), wordAt("3") + "-", pathAt("3") + " ", "/" + pathAt("3"), "333333333333e-3", wordAt("z") + "-3", wordAt("3") + "-.3", pathAt("3") + strings.Repeat("x", 60)} {
		addIs(t, st, path, treeAt(""), "", 5)
		if path != "" {
			addIs(t, st, pathAt("3"), treeAt(""), path, 5)
			addIs(t, st, pathAt("1"), treeAt(""), path, 5)
		}
	}
	for _, tree := range [][]impl.Entry{
		{{Path: "f", Kind: 2}, {Path: "f", Kind: 2}},
		{{Path: "", Kind: 1}},
		{{Path: "a/b", Kind: 2}},
		{{Path: "a", Kind: 4}},
		{{Path: "a", Kind: 3}},
		manyEntries(501),
	} {
		addIs(t, st, pathAt("3"), tree, "", 5)
		addIs(t, st, pathAt("1"), tree, "", 5)
	}
	addIs(t, st, wordAt("3")+"-"+strings.Repeat("x", 60), manyEntries(500), wordAt("3")+"-"+strings.Repeat("x", 60), 0)
	addIs(t, st, pathAt("3"), nil, "", 0)
}

func TestAddItemIntoAFullStore(t *testing.T) {
	almost := manyItems(299)
	awaited := impl.Address("out", "awaited", nil)
	waiting := impl.Address("out", "waiting", nil)
	tree := []impl.Entry{{Path: "f", Kind: 2, Data: awaited}}
	full := addIs(t, almost, waiting, tree, "", 0)
	if len(full) != 300 {
		t.Fatal(len(full))
	}
	addIs(t, full, waiting, tree, "", 1)
	addIs(t, full, waiting, nil, "", 2)
	addIs(t, full, awaited, nil, "", 3)
	addIs(t, full, pathAt("1"), nil, "", 4)
	addIs(t, full, pathAt("1"), tree, pathAt("2"), 4)
	addIs(t, full, "1", nil, "", 5)
	addIs(t, full, pathAt("1"), nil, "1", 5)
	addIs(t, full, pathAt("1"), manyEntries(501), "", 5)
	addIs(t, manyItems(301), pathAt("1"), nil, "", 5)
	addIs(t, manyItems(301), manyItems(301)[0].Path, treeAt(""), "", 5)
}

func TestClosure(t *testing.T) {
	for _, r := range [][3]string{
		{"", "1", ""},
		{"1:", "", ""},
		{"1:", "1", "1"},
		{"1:", "2", ""},
		{"1:1", "1", "1"},
		{"1:2 2:3 3:", "1", "1 2 3"},
		{"1:2 2:3 3:", "2", "2 3"},
		{"1:2 2:3 3:", "3", "3"},
		{"1:2 2:3 3:1", "2", "1 2 3"},
		{"1:2 2:1 3:", "1", "1 2"},
		{"1:2 2:1 3:1", "3", "1 2 3"},
		{"1: 2:1 3:2 4:2 5:34", "5", "1 2 3 4 5"},
		{"1: 2: 3: 4:", "4 1", "1 4"},
		{"1: 2: 3: 4:", "4 1 4 1 9", "1 4"},
		{"1:3 2: 3: 4:2", "4 1", "1 2 3 4"},
		{"1: 1b: 2:1", "2", "1 1b 2"},
		{"1: 1b: 2:1", "1b", "1b"},
		{"1:7", "1 7", "1"},
	} {
		closureIs(t, storeOf(r[0]), pathsAt(r[1]), pathsAt(r[2]))
	}
	closureIs(t, storeOf("1:2 2:"), []string{"", "1", wordAt("1"), pathAt("1") + "x", " " + pathAt("1")}, nil)
	closureIs(t, storeOf("1:2 2:"), []string{"", pathAt("2"), "-"}, pathsAt("2"))
}

func TestClosureOfMaxManyPaths(t *testing.T) {
	many := slices.Repeat(pathsAt("9"), 2000)
	st := storeOf("1:2 2: 3:")
	closureIs(t, st, many, nil)
	many[1999] = pathAt("1")
	closureIs(t, st, many, pathsAt("1 2"))
	closureIs(t, st, append(many, pathAt("3")), nil)
	closureIs(t, st, slices.Repeat(pathsAt("1"), 2001), nil)
	withoutIs(t, st, many, storeOf("2: 3:"), true)
	withoutIs(t, st, append(many, pathAt("3")), nil, false)
	withoutIs(t, st, slices.Repeat(pathsAt("1"), 2000), storeOf("2: 3:"), true)
	withoutIs(t, st, slices.Repeat(pathsAt("1"), 2001), nil, false)
	withoutIs(t, st, slices.Repeat(pathsAt("2"), 2000), st, false)
	withoutIs(t, st, slices.Repeat(pathsAt("2"), 2001), nil, false)
}

func TestUsedBy(t *testing.T) {
	for _, r := range [][3]string{
		{"", "1", ""},
		{"1:", "2", ""},
		{"1:2", "2", ""},
		{"1:", "1", "1"},
		{"1:1", "1", "1"},
		{"1:2 2:", "1", "1"},
		{"1:2 2:", "2", "1 2"},
		{"1:2 2:3 3:", "3", "1 2 3"},
		{"1:2 2:3 3:1", "3", "1 2 3"},
		{"1:2 2:1 3: 4:3", "1", "1 2"},
		{"1:2 2:1 3:1 4:3", "2", "1 2 3 4"},
		{"1: 2:1 3:1 4:23", "1", "1 2 3 4"},
		{"1: 1b: 2:1", "1b", "1b 2"},
	} {
		usedByIs(t, storeOf(r[0]), pathAt(r[1]), pathsAt(r[2]))
	}
	for _, path := range []string{"", "1", wordAt("1"), pathAt("1") + "x"} {
		usedByIs(t, storeOf("1:1 2:1"), path, nil)
	}
}

func TestWithoutSomePaths(t *testing.T) {
	for _, r := range []struct{ store, paths, left string }{
		{"", "", ""},
		{"", "1", ""},
		{"1:", "", "1:"},
		{"1:", "2", "1:"},
		{"1:", "1", ""},
		{"1:1", "1", ""},
		{"1:2 2:", "1", "2:"},
		{"1:2 2:", "2", "refused"},
		{"1:2 2:", "2 1", ""},
		{"1:2 2:", "1 1 9 1", "2:"},
		{"1:2 2:1 3:", "1", "refused"},
		{"1:2 2:1 3:", "2", "refused"},
		{"1:2 2:1 3:", "1 2", "3:"},
		{"1:2 2:1 3:", "3", "1:2 2:1"},
		{"1:2 2:1 3:1", "1 2", "refused"},
		{"1:2 2:1 3:1", "3 2 1", ""},
		{"1:2 2:3 3:4 4:", "1 2", "3:4 4:"},
		{"1:2 2:3 3:4 4:", "1 3", "refused"},
		{"1:2 2:3 3:4 4:", "4", "refused"},
		{"1:9", "9", "1:9"},
		{"1: 1b: 2:1", "1b", "refused"},
		{"1: 1b: 2:1", "1b 2", "1:"},
		{"1: 1b:", "1b", "1:"},
	} {
		st := storeOf(r.store)
		if r.left == "refused" {
			withoutIs(t, st, pathsAt(r.paths), st, false)
		} else {
			withoutIs(t, st, pathsAt(r.paths), storeOf(r.left), true)
		}
	}
	st := storeOf("1:2 2:")
	withoutIs(t, st, []string{"", "2", wordAt("2"), pathAt("2") + "x"}, st, true)
}

func TestVerifyOfManyFaults(t *testing.T) {
	verifyIs(t, "nothing", nil)
	verifyIs(t, "a store", storeOf("1:2 2:1 3:12"))
	verifyIs(t, "an item of nothing", []impl.Item{{}}, "")
	verifyIs(t, "items of nothing", make([]impl.Item, 3), "", "", "")
	verifyIs(t, "many items of nothing", make([]impl.Item, 300), make([]string, 300)...)
	verifyIs(t, "too many items of nothing", make([]impl.Item, 301))
	for one, spoilOne := range spoilings() {
		for other, spoilOther := range spoilings() {
			what := one + ", " + other
			st := changedStore(storeOf("1: 2:13 3:"), func(st []impl.Item) {
				spoilOne(&st[1])
				if len(st[1].Refs) > 1 && len(st[1].Sum) > 12 && len(st[1].Tree) > 0 && len(st[1].Tree[0].Data) < 100 {
					spoilOther(&st[1])
				}
			})
			if len(plainVerify(st)) == 0 {
				continue
			}
			verifyIs(t, what, st, st[1].Path)
			two := changedStore(storeOf("1: 2:13 3: 4:13"), func(st []impl.Item) {
				spoilOne(&st[1])
				spoilOther(&st[3])
			})
			if two[1].Path != two[3].Path {
				verifyIs(t, what+" of another", two, two[1].Path, two[3].Path)
			}
		}
	}
}

// A Path that is none is among no Refs, but one of an item with another fault is.
func TestVerifyOfRefsToWhatIsWrong(t *testing.T) {
	st := changedStore(storeOf("1: 2:1"), func(st []impl.Item) { st[0].Sum = "" })
	verifyIs(t, "a reference to what has a fault", st, pathAt("1"))
	st = changedStore(storeOf("1: 2:1"), func(st []impl.Item) { st[0].Path += "/" })
	verifyIs(t, "a reference to what is no address", st, pathAt("1")+"/", pathAt("2"))
	st[1].Refs = nil
	verifyIs(t, "no reference to what is no address", st, pathAt("1")+"/")
	st[1].Refs = []string{pathAt("1") + "/"}
	verifyIs(t, "a reference that is no address", st, pathAt("1")+"/", pathAt("2"))
	st = storeOf("1: 2:1")
	verifyIs(t, "a reference to what is there twice", append(st, st[0]), pathAt("1"))
}

func TestOptimise(t *testing.T) {
	for _, r := range []struct {
		trees []string
		want  int64
	}{
		{nil, 0},
		{[]string{""}, 0},
		{[]string{"a=xyz"}, 0},
		{[]string{"a=xyz b=xyz"}, 3},
		{[]string{"a=xyz b=xyz c=xyz"}, 6},
		{[]string{"a=xyz", "a=xyz"}, 3},
		{[]string{"a=xyz", "b=xyz", "c/ c/d=xyz"}, 6},
		{[]string{"a=xyz b=xyz", "a=xyz b=xyz"}, 9},
		{[]string{"a=xyz", "a*xyz"}, 0},
		{[]string{"a=xyz b*xyz", "a*xyz b=xyz"}, 6},
		{[]string{"a=xyz", "a>xyz"}, 0},
		{[]string{"a>xyz", "a>xyz"}, 0},
		{[]string{"a/", "a/"}, 0},
		{[]string{"a= b=", "a= b*"}, 0},
		{[]string{"a=x b=xy", "a=xy b=x", "a=xyz"}, 3},
		{[]string{"a=x b=x c=y d=y", "a=y"}, 3},
		{[]string{manyKinds, manyKinds}, 6},
	} {
		items := []impl.Item{}
		for i, row := range r.trees {
			items = append(items, impl.Item{Path: pathAt(fmt.Sprint(i)), Tree: entriesOf(row)})
		}
		st := plainStore(items...)
		if got := impl.Optimise(st); got != r.want || plainOptimise(st) != r.want {
			t.Errorf("%q: %d, in plain words %d", r.trees, got, plainOptimise(st))
		}
	}
	for _, st := range [][]impl.Item{{{}}, append(storeOf("2:"), storeOf("1:")...), slices.Repeat(storeOf("1:"), 2), manyItems(301)} {
		if got := impl.Optimise(st); got != -1 {
			t.Error("of what is no store:", got)
		}
	}
	if got := impl.Optimise(manyItems(300)); got != 299*3 {
		t.Error("of many:", got)
	}
}

// storeAgrees holds all that is asked of a list against plain words.
func storeAgrees(t *testing.T, st []impl.Item, paths []string, path string, tree []impl.Entry, from string) {
	t.Helper()
	if got, want := impl.StoreOk(st), plainStoreOk(st); got != want {
		t.Errorf("StoreOk of %+v: %v", st, got)
	}
	if got, want := impl.Verify(st), plainVerify(st); !same(got, want) {
		t.Errorf("Verify of %+v: %q, not %q", st, got, want)
	}
	_, code := plainAdd(st, path, tree, from)
	addIs(t, st, path, tree, from, code)
	closureIs(t, st, paths, plainClosure(st, paths))
	usedByIs(t, st, path, plainUsedBy(st, path))
	left, ok := plainWithout(st, paths)
	withoutIs(t, st, paths, left, ok)
	if got, want := impl.Optimise(st), plainOptimise(st); got != want {
		t.Errorf("Optimise of %+v: %d, not %d", st, got, want)
	}
}

func TestEverySmallStore(t *testing.T) {
	names := []string{"1", "2", "3"}
	for refs := range 1 << 9 {
		row := []string{}
		for i, name := range names {
			letters := ""
			for j, letter := range names {
				if refs>>(3*i+j)&1 == 1 {
					letters += letter
				}
			}
			row = append(row, name+":"+letters)
		}
		for taken := range 1 << 3 {
			st, paths := storeOf(strings.Join(row, " ")), []string{}
			for i, name := range names {
				if taken>>i&1 == 1 {
					paths = append(paths, pathAt(name))
				}
			}
			name := names[taken%3]
			storeAgrees(t, st, paths, pathAt(name), treeAt(strings.Split(row[taken%3], ":")[1]), "")
			two := storeOf(strings.Join(slices.Delete(slices.Clone(row), taken%3, taken%3+1), " "))
			storeAgrees(t, two, paths, pathAt(name), treeAt(strings.Split(row[taken%3], ":")[1]), "")
		}
	}
}

// A storeMaker makes stores of a few names, of which some have one word.
type storeMaker struct{ treeMaker }

const storeNames = "1 1b 2 3 3x 4 5 6"

func (m storeMaker) name() string {
	names := strings.Fields(storeNames)
	return names[m.Intn(len(names))]
}

func (m storeMaker) paths() []string {
	paths := []string{}
	for range m.Intn(6) {
		paths = append(paths, pathAt(m.name()))
	}
	return paths
}

func (m storeMaker) from() string {
	return []string{"", "", pathAt("9"), pathAt("8.drv")}[m.Intn(4)]
}

// refTree has words, and pieces of words, in some of its files and links.
func (m storeMaker) refTree() []impl.Entry {
	t := m.tree(5)
	for i := range t {
		if t[i].Kind == 1 {
			continue
		}
		word := wordAt(m.name())
		switch m.Intn(5) {
		case 0, 1:
			t[i].Data += word
		case 2:
			t[i].Data = word + t[i].Data
		case 3:
			t[i].Data += word[m.Intn(3):]
		}
	}
	return t
}

func (m storeMaker) store(most int) []impl.Item {
	st := []impl.Item{}
	for range m.Intn(most + 1) {
		path := pathAt(m.name())
		if plainItemAt(st, path) < 0 {
			st = append(st, impl.Item{Path: path, From: m.from(), Tree: m.refTree()})
		}
	}
	return plainStore(st...)
}

// spoil makes a store with at least one item nearly one.
func (m storeMaker) spoil(st []impl.Item) []impl.Item {
	at, other := m.Intn(len(st)), m.Intn(len(st))
	item := &st[at]
	switch m.Intn(12) {
	case 0:
		st[at], st[other] = st[other], st[at]
	case 1:
		return slices.Insert(st, at, st[other])
	case 2:
		return slices.Delete(st, at, at+1)
	case 3:
		item.Path = pathAt(m.name())
	case 4:
		item.Path = []string{"", "x", wordAt("1"), pathAt("1") + "/"}[m.Intn(4)]
	case 5:
		item.Sum = []string{"", st[other].Sum, item.Sum + "0", item.Sum[len(item.Sum)/2:]}[m.Intn(4)]
	case 6:
		item.Refs = m.paths()
	case 7:
		item.Refs = append(slices.Clone(item.Refs), pathAt(m.name()))
	case 8:
		item.From = []string{"x", wordAt("1"), m.from()}[m.Intn(3)]
	case 9:
		item.Tree = m.refTree()
	case 10:
		item.Tree = append(slices.Clone(item.Tree), m.entry("a b", 2))
		item.Sum = plainTreeSum(item.Tree)
	case 11:
		item.Tree = m.refTree()
		item.Sum = plainTreeSum(item.Tree)
	}
	return st
}

func TestStoresByChance(t *testing.T) {
	m := storeMaker{treeMaker{rand.New(rand.NewSource(12))}}
	can, codes := map[bool]int{}, map[int64]int{}
	for range 6000 {
		st := m.store(9)
		for range m.Intn(3) {
			if len(st) > 0 {
				st = m.spoil(st)
			}
		}
		path, tree := pathAt(m.name()), m.refTree()
		if at := plainItemAt(st, path); at >= 0 && m.Intn(2) == 0 {
			tree = st[at].Tree
		}
		can[plainStoreOk(st)]++
		_, code := plainAdd(st, path, tree, "")
		codes[code]++
		storeAgrees(t, st, m.paths(), path, tree, m.from())
	}
	if can[true] < 800 || can[false] < 800 || codes[0] < 100 || codes[1] < 100 || codes[2] < 100 || codes[3] < 100 {
		t.Error(can, codes)
	}
}

// What is added and taken out leaves a store as it was; what is refused changes nothing; what is referred to is there.
func TestStoresStepByStep(t *testing.T) {
	m := storeMaker{treeMaker{rand.New(rand.NewSource(13))}}
	added, goneAgain, taken, refused := 0, 0, 0, 0
	for range 150 {
		st := []impl.Item{}
		for range 20 {
			path, tree := pathAt(m.name()), m.refTree()
			more, code := impl.AddItem(st, path, tree, m.from())
			if code != impl.StoreAdded {
				if !same(more, st) {
					t.Fatalf("code %d changes %+v to %+v", code, st, more)
				}
				refused++
			} else {
				added++
				at := plainItemAt(more, path)
				if at < 0 || more[at].Sum != plainTreeSum(tree) || !same(more[at].Refs, plainRefs(tree, plainPathsIn(more))) || !same(more[at].Tree, tree) {
					t.Fatalf("%q is not there as it was added: %+v", path, more)
				}
				back, ok := impl.Without(more, []string{path})
				if !ok || !same(back, st) {
					t.Fatalf("%q added and taken out: %v, %+v, not %+v", path, ok, back, st)
				}
				goneAgain++
				if m.Intn(10) > 0 {
					st = more
				}
			}
			if m.Intn(3) == 0 {
				paths := m.paths()
				left, ok := impl.Without(st, paths)
				if !ok && !same(left, st) {
					t.Fatalf("without %q, refused: %+v, not %+v", paths, left, st)
				}
				if ok && len(left) < len(st) {
					taken++
				}
				st = left
			}
			if !plainStoreOk(st) {
				t.Fatalf("no store: %+v", st)
			}
			for _, item := range st {
				if here := impl.Closure(st, []string{item.Path}); !slices.Contains(here, item.Path) || len(impl.Closure(st, item.Refs)) > len(here) {
					t.Fatalf("%q in %+v: %q", item.Path, st, here)
				}
				for _, ref := range item.Refs {
					if plainItemAt(st, ref) < 0 {
						t.Fatalf("%q is not there", ref)
					}
				}
			}
		}
	}
	if added < 500 || goneAgain < 500 || taken < 100 || refused < 500 {
		t.Error(added, goneAgain, taken, refused)
	}
}

func TestTheGreatestStores(t *testing.T) {
	paths := plainPathsIn(manyItems(300))
	all, chain := []impl.Item{}, []impl.Item{}
	words := ""
	for _, path := range paths {
		words += path[:13]
	}
	for i, path := range paths {
		sum := plainTreeSum([]impl.Entry{{Path: "f", Kind: 2, Data: words}})
		all = append(all, impl.Item{Path: path, Sum: sum, Refs: paths, Tree: []impl.Entry{{Path: "f", Kind: 2, Data: words}}})
		next := paths[(i*7+1)%300]
		data := strings.Repeat(" ", 19980) + next[:13]
		chain = append(chain, impl.Item{Path: path, Refs: []string{next}, Tree: []impl.Entry{{Path: "f", Kind: 2, Data: data}}})
		chain[i].Sum = plainTreeSum(chain[i].Tree)
	}
	if !impl.StoreOk(all) || !impl.StoreOk(chain) || len(impl.Verify(all)) > 0 {
		t.Fatal("they are no stores")
	}
	many := slices.Repeat(paths, 6)
	if got := impl.Closure(all, many); !same(got, paths) {
		t.Error("the closure of all has", len(got))
	}
	if got := impl.Closure(all, paths[299:]); !same(got, paths) {
		t.Error("the closure of one has", len(got))
	}
	if got := impl.UsedBy(all, paths[150]); !same(got, paths) {
		t.Error("one is used by", len(got))
	}
	closureIs(t, chain, paths[:1], plainClosure(chain, paths[:1]))
	if left, ok := impl.Without(all, paths[1:]); ok || len(left) != 300 {
		t.Error("without all but one:", ok, len(left))
	}
	if left, ok := impl.Without(all, paths); !ok || len(left) != 0 {
		t.Error("without all:", ok, len(left))
	}
	if got := impl.Optimise(all); got != 299*300*13 {
		t.Error("to be spared:", got)
	}
	st, code := []impl.Item{}, int64(0)
	for i, path := range paths {
		st, code = impl.AddItem(st, path, []impl.Entry{{Path: "f", Kind: 2, Data: strings.Join(paths[:i], " ")}}, "")
		if code != impl.StoreAdded || len(st) != i+1 || len(st[plainItemAt(st, path)].Refs) != i {
			t.Fatal("one behind the other:", i, code)
		}
	}
}

func TestStoresAreNewMemory(t *testing.T) {
	st, stays := roomyAll(plainStore(
		impl.Item{Path: pathAt("1"), From: pathAt("9"), Tree: entriesOf("a/ a/b=" + wordAt("2") + " c>" + wordAt("1"))},
		impl.Item{Path: pathAt("2"), Tree: treeAt("12")},
		impl.Item{Path: pathAt("3"), Tree: treeAt("12")},
	))
	paths, pathsStay := roomyAll(pathsAt("3 9 3"))
	inner, innerStay := roomyAll(pathsAt("1 2"))
	tree, treeStays := roomyAll(entriesOf("d/ d/f=" + wordAt("1") + " l>to"))
	path, from := pathAt("4"), pathAt("8")
	given := []any{st, paths, inner, tree, path, from}
	answers, befores := []any{}, []string{}
	see := func(answer any) {
		if !isNew(answer, given...) {
			t.Errorf("%+v is not new", answer)
		}
		answers = append(answers, answer)
		befores = append(befores, fmt.Sprintf("%+v", answer))
	}
	for range 2 {
		for _, p := range []string{path, st[0].Path, wordAt("1") + "-new", "wrong"} {
			for _, made := range [][]impl.Entry{tree, st[0].Tree} {
				more, _ := impl.AddItem(st, p, made, from)
				see(more)
			}
		}
		for _, some := range [][]string{paths, inner, nil} {
			see(impl.Closure(st, some))
			left, _ := impl.Without(st, some)
			see(left)
		}
		see(impl.UsedBy(st, st[0].Path))
		see(impl.UsedBy(st, path))
		see(impl.Verify(append(slices.Clone(st), st...)))
		impl.StoreOk(st)
		impl.Optimise(st)
	}
	if !stays() || !pathsStay() || !innerStay() || !treeStays() {
		t.Error("an argument was changed")
	}
	for i, answer := range answers {
		if fmt.Sprintf("%+v", answer) != befores[i] {
			t.Errorf("a later call changed %s to %+v", befores[i], answer)
		}
		if !isNew(answer, append(slices.Clone(answers[:i]), answers[i+1:]...)...) {
			t.Errorf("%s shares memory with a later answer", befores[i])
		}
	}
}
