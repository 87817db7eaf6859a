package tests

import (
	"fmt"
	"math"
	"math/rand"
	"runtime"
	"slices"
	"strings"
	"sync"
	"testing"

	"loop.example/g00023/impl"
)

func collectIs(t *testing.T, st []impl.Item, roots []string, want []impl.Item, gone []string) {
	t.Helper()
	if left, went := plainCollect(st, roots); !same(left, want) || !same(went, gone) {
		t.Errorf("plain words: of %d items and %d roots %q go, not %q", len(st), len(roots), went, gone)
	}
	if left, went := impl.Collect(st, roots); !same(left, want) || !same(went, gone) {
		t.Errorf("of %d items and %d roots %q go, not %q; %q are left", len(st), len(roots), went, gone, plainPathsIn(left))
	}
}

func collectSomeIs(t *testing.T, st []impl.Item, roots []string, most int64, want []impl.Item, gone []string) {
	t.Helper()
	if left, went := plainCollectSome(st, roots, most); !same(left, want) || !same(went, gone) {
		t.Errorf("plain words: of %d items and %d roots, at most %d, %q go, not %q", len(st), len(roots), most, went, gone)
	}
	if left, went := impl.CollectSome(st, roots, most); !same(left, want) || !same(went, gone) {
		t.Errorf("of %d items and %d roots, at most %d, %q go, not %q; %q are left", len(st), len(roots), most, went, gone, plainPathsIn(left))
	}
}

func TestCollect(t *testing.T) {
	for _, r := range [][4]string{
		{"", "", "", ""},
		{"", "1", "", ""},
		{"1:", "", "", "1"},
		{"1:", "1", "1:", ""},
		{"1:", "2", "", "1"},
		{"1:", "2 1 2", "1:", ""},
		{"1:1", "", "", "1"},
		{"1:1", "1", "1:1", ""},
		{"1: 2: 3:", "", "", "1 2 3"},
		{"1: 2: 3:", "3 1 2", "1: 2: 3:", ""},
		{"1: 2: 3:", "2", "2:", "1 3"},
		{"1: 2: 3:", "2 2 2", "2:", "1 3"},
		{"1:2 2:", "1", "1:2 2:", ""},
		{"1:2 2:", "2", "2:", "1"},
		{"1: 2:1", "2", "1: 2:1", ""},
		{"1: 2:1", "1", "1:", "2"},
		{"1:2 2:3 3:4 4:", "2", "2:3 3:4 4:", "1"},
		{"1:2 2:3 3:4 4:", "4", "4:", "1 2 3"},
		{"1:2 2:1 3:", "3", "3:", "1 2"},
		{"1:2 2:1 3:", "1", "1:2 2:1", "3"},
		{"1:2 2:1 3:1", "3", "1:2 2:1 3:1", ""},
		{"1:2 2:1 3:1", "2", "1:2 2:1", "3"},
		{"1:2 2:13 3:", "", "", "1 2 3"},
		{"1:2 2:13 3:", "3", "3:", "1 2"},
		{"1:23 2: 3: 4:23", "1", "1:23 2: 3:", "4"},
		{"1:23 2: 3: 4:23", "1 4", "1:23 2: 3: 4:23", ""},
		{"1:2 2: 3:4 4: 5:", "1 3", "1:2 2: 3:4 4:", "5"},
		{"1:2 2: 3:4 4: 5:", "1 3 5 9", "1:2 2: 3:4 4: 5:", ""},
		{"1: 1b: 2:1", "2", "1: 1b: 2:1", ""},
		{"1: 1b: 2:1", "1b", "1b:", "1 2"},
		{"1:9", "1 9", "1:9", ""},
	} {
		collectIs(t, storeOf(r[0]), pathsAt(r[1]), storeOf(r[2]), pathsAt(r[3]))
		collectSomeIs(t, storeOf(r[0]), pathsAt(r[1]), 0, storeOf(r[0]), nil)
	}
	st := storeOf("1:2 2:")
	collectIs(t, st, []string{"", "1", wordAt("1"), pathAt("1") + "x", " " + pathAt("1")}, nil, pathsAt("1 2"))
	collectIs(t, st, []string{"", pathAt("2"), "-"}, storeOf("2:"), pathsAt("1"))
}

// In a row, the paths that go are parted by blanks, and what goes together has a + between.
func TestCollectSome(t *testing.T) {
	for _, r := range [][3]string{
		{"", "", ""},
		{"1:", "1", ""},
		{"1:", "", "1"},
		{"1:1", "", "1"},
		{"1: 2: 3:", "", "1 2 3"},
		{"1: 2: 3:", "2", "1 3"},
		{"1:2 2:3 3:", "", "1 2 3"},
		{"1: 2:1 3:2", "", "3 2 1"},
		{"1: 2:1 3:2", "1", "3 2"},
		{"1: 2:1 3:2", "2", "3"},
		{"1:12 2:2", "", "1 2"},
		{"1: 2:3 3:1", "", "2 3 1"},
		{"1:4 2: 3: 4:3", "", "1 2 4 3"},
		{"1:2 2: 3:2", "3", "1"},
		{"1:2 2: 3:", "2", "1 3"},
		{"1:2 2:1", "", "1+2"},
		{"1:2 2:1", "1", ""},
		{"1:12 2:12", "", "1+2"},
		{"1:2 2:1 3:", "", "3 1+2"},
		{"1:2 2:1 3:1", "", "3 1+2"},
		{"1:23 2:1 3:", "", "1+2+3"},
		{"1:23 2:1 3:", "3", "1+2"},
		{"1:2 2:13 3:4 4:", "", "1+2+3+4"},
		{"1:2 2:13 3:4 4:", "4", "1+2+3"},
		{"1:2 2:1 3:4 4:3", "", "1+2+3+4"},
		{"1:2 2:1 3:4 4:3", "3", "1+2"},
		{"1:2 2:1 3:4 4:3 5:1 6:5", "", "6 5 1+2+3+4"},
		{"1:2 2:1 3:4 4:3 5:1 6:5", "5", "6 3+4"},
		{"1: 2:3 3:2 4:2 5:1", "", "4 5 1 2+3"},
		{"1: 2:13 3:2 4:2 5:1", "", "4 5 1+2+3"},
		{"1:1 2:1 3:34 4:3", "", "2 1 3+4"},
		{"1: 1b: 2:1", "", "2 1 1b"},
		{"1: 1b:1 2:1", "", "2 1b 1"},
		{"1:1 1b:1 2:", "", "2 1+1b"},
	} {
		st, roots := storeOf(r[0]), pathsAt(r[1])
		going := pathsAt(strings.ReplaceAll(r[2], "+", " "))
		for most := int64(-2); most <= int64(len(going))+2; most++ {
			gone := []string{}
			for piece := range strings.FieldsSeq(r[2]) {
				together := pathsAt(strings.ReplaceAll(piece, "+", " "))
				if int64(len(gone)+len(together)) > most {
					break
				}
				gone = append(gone, together...)
			}
			collectSomeIs(t, st, roots, most, plainLeft(st, gone), gone)
		}
		for _, most := range []int64{256, 1 << 16, 1 << 31, 1 << 32, 1 << 62, math.MaxInt64} {
			collectSomeIs(t, st, roots, most, plainLeft(st, going), going)
			collectSomeIs(t, st, roots, -most, st, nil)
		}
		collectSomeIs(t, st, roots, math.MinInt64, st, nil)
		collectIs(t, st, roots, plainLeft(st, going), slices.Sorted(slices.Values(going)))
	}
}

func TestCollectOfMaxManyRoots(t *testing.T) {
	st := storeOf("1:2 2: 3: 4:4")
	for _, filler := range []string{"", "x", pathAt("9"), pathAt("3")} {
		for _, at := range []int{0, 499, 500, 1000, 1500, 1999} {
			many := slices.Repeat([]string{filler}, 2000)
			many[at] = pathAt("1")
			left, gone := storeOf("1:2 2:"), pathsAt("3 4")
			if filler == pathAt("3") {
				left, gone = storeOf("1:2 2: 3:"), pathsAt("4")
			}
			collectIs(t, st, many, left, gone)
			collectSomeIs(t, st, many, 9, left, gone)
			collectSomeIs(t, st, many, 1, plainLeft(st, gone[:1]), gone[:1])
			many = append(many, pathAt("3"))
			collectIs(t, st, many, nil, nil)
			for most := int64(-1); most < 4; most++ {
				collectSomeIs(t, st, many, most, nil, nil)
			}
		}
	}
}

func TestCollectOfWhatIsNoStore(t *testing.T) {
	wrongs := map[string][]impl.Item{
		"the zero value":    {{}},
		"another order":     append(storeOf("2:"), storeOf("1:")...),
		"one twice":         slices.Repeat(storeOf("1:"), 2),
		"one too many":      manyItems(301),
		"a reference less":  append(storeOf("1:12"), storeOf("2:")...),
		"a reference more":  storeOf("1:2 2:")[:1],
		"a path of no kind": changedStore(storeOf("1:"), func(st []impl.Item) { st[0].Path = "1" }),
	}
	for what, spoil := range spoilings() {
		wrongs[what] = changedStore(storeOf("1: 2:13 3:"), func(st []impl.Item) { spoil(&st[1]) })
	}
	for what, st := range wrongs {
		if plainStoreOk(st) {
			t.Errorf("%s is a store", what)
		}
		for _, roots := range [][]string{nil, plainPathsIn(st), pathsAt("1")} {
			collectIs(t, st, roots, nil, nil)
			for most := int64(-1); most < 4; most++ {
				collectSomeIs(t, st, roots, most, nil, nil)
			}
		}
	}
}

// collectHolds asks for the promise itself, at every number: what a root needs is there, what is left is a store, and in the end all else is gone.
func collectHolds(t *testing.T, st []impl.Item, roots []string) {
	t.Helper()
	needed := impl.Closure(st, roots)
	left, gone := impl.Collect(st, roots)
	if !impl.StoreOk(left) || !same(plainPathsIn(left), needed) || len(left)+len(gone) != len(st) || !same(left, plainLeft(st, gone)) {
		t.Fatalf("%q of %q are left, %q needed", plainPathsIn(left), plainPathsIn(st), needed)
	}
	if again, more := impl.Collect(left, roots); !same(again, left) || len(more) > 0 {
		t.Fatalf("collected again, %q go", more)
	}
	_, all := impl.CollectSome(st, roots, int64(len(st)))
	for most := int64(-1); most <= int64(len(gone))+1; most++ {
		some, went := impl.CollectSome(st, roots, most)
		if !impl.StoreOk(some) || !plainStoreOk(some) || !same(some, plainLeft(st, went)) {
			t.Fatalf("at most %d: no store is left: %q", most, plainPathsIn(some))
		}
		if int64(len(went)) > max(most, 0) || len(went) > len(all) || !same(went, all[:len(went)]) {
			t.Fatalf("at most %d: %q go, of %q", most, went, all)
		}
		if kept := impl.Closure(some, roots); !same(kept, needed) {
			t.Fatalf("at most %d: of what is needed %q are left, not %q", most, kept, needed)
		}
		if end, _ := impl.CollectSome(some, roots, math.MaxInt64); !same(end, left) {
			t.Fatalf("at most %d, and then all: %q are left", most, plainPathsIn(end))
		}
		if int64(len(gone)) <= most && !same(some, left) {
			t.Fatalf("at most %d: %q are left, not %q", most, plainPathsIn(some), plainPathsIn(left))
		}
	}
}

func collectAgrees(t *testing.T, st []impl.Item, roots []string, most int64) {
	t.Helper()
	left, gone := plainCollect(st, roots)
	collectIs(t, st, roots, left, gone)
	left, gone = plainCollectSome(st, roots, most)
	collectSomeIs(t, st, roots, most, left, gone)
}

func TestCollectOfEverySmallStore(t *testing.T) {
	names := []string{"1", "2", "3"}
	for refs := range 1 << 9 {
		row := []string{}
		for i, name := range names {
			letters := ""
			for j, letter := range names {
				if refs>>(3*i+j)&1 == 1 {
					letters += letter
				}
			}
			row = append(row, name+":"+letters)
		}
		st := storeOf(strings.Join(row, " "))
		for some := range 1 << 3 {
			roots := []string{}
			for i, name := range names {
				if some>>i&1 == 1 {
					roots = append(roots, pathAt(name))
				}
			}
			left, gone := plainCollect(st, roots)
			collectIs(t, st, roots, left, gone)
			for most := range int64(6) {
				left, gone := plainCollectSome(st, roots, most-1)
				collectSomeIs(t, st, roots, most-1, left, gone)
			}
		}
		collectHolds(t, st, pathsAt(names[refs%3]))
		collectHolds(t, st, nil)
	}
}

// sparse makes stores with few references, so that they have long ways, and circles now and then.
func (m storeMaker) sparse(n int) []impl.Item {
	names := "0123456789abcd"
	row := []string{}
	for i := range n {
		letters := ""
		for range m.Intn(3) {
			if to := m.Intn(n); to < i || m.Intn(2) == 0 {
				letters += names[to : to+1]
			}
		}
		row = append(row, names[i:i+1]+":"+letters)
	}
	return storeOf(strings.Join(row, " "))
}

func TestCollectByChance(t *testing.T) {
	m := storeMaker{treeMaker{rand.New(rand.NewSource(133))}}
	can, together, ended := map[bool]int{}, 0, 0
	for range 2500 {
		st := m.store(9)
		for range m.Intn(2) {
			if len(st) > 0 {
				st = m.spoil(st)
			}
		}
		can[plainStoreOk(st)]++
		collectAgrees(t, st, m.paths(), int64(m.Intn(9)-1))
	}
	for range 1500 {
		st := m.sparse(m.Intn(15))
		roots := []string{}
		for range m.Intn(3) {
			roots = append(roots, pathAt("0123456789abcdf"[m.Intn(15):][:1]))
		}
		_, gone := plainCollect(st, roots)
		most := int64(m.Intn(len(gone) + 2))
		collectAgrees(t, st, roots, most)
		if _, went := impl.CollectSome(st, roots, most); int64(len(went)) < min(most, int64(len(gone))) {
			ended++
		}
		if _, went := impl.CollectSome(st, roots, int64(len(gone)-1)); len(went) < len(gone)-1 {
			together++
		}
	}
	if can[true] < 800 || can[false] < 400 || together < 50 || ended < 50 {
		t.Error(can, together, ended)
	}
}

func TestCollectHoldsByChance(t *testing.T) {
	m := storeMaker{treeMaker{rand.New(rand.NewSource(134))}}
	for range 150 {
		collectHolds(t, m.store(9), m.paths())
		collectHolds(t, m.sparse(m.Intn(15)), pathsAt("3 7 c"))
	}
}

// What profiles have is kept as long as a Gen has it, whichever is set.
func TestCollectWithProfiles(t *testing.T) {
	st := storeOf("1: a:1 2: b:12 c:2 3:")
	ps := profilesOf("me:1 1a 2b")
	steps := []struct {
		change func() ([]impl.Profile, bool)
		gone   string
		left   string
	}{
		{func() ([]impl.Profile, bool) { return ps, true }, "3 c", "1: 2: a:1 b:12"},
		{func() ([]impl.Profile, bool) { return impl.Prune(ps, "me", 1) }, "", "1: 2: a:1 b:12"},
		{func() ([]impl.Profile, bool) { return impl.Prune(ps, "me", 0) }, "2 b", "1: a:1"},
		{func() ([]impl.Profile, bool) { return impl.Switch(ps, "me", pathAt("1")) }, "", "1: a:1"},
		{func() ([]impl.Profile, bool) { return impl.Prune(ps, "me", 1) }, "a", "1:"},
	}
	for i, step := range steps {
		ok := false
		if ps, ok = step.change(); !ok {
			t.Fatal(i, "is refused")
		}
		collectIs(t, st, impl.Roots(ps, nil), storeOf(step.left), pathsAt(step.gone))
		st, _ = impl.Collect(st, impl.Roots(ps, nil))
	}
	if got := impl.Current(ps, "me"); got != pathAt("1") || len(st) != 1 {
		t.Error(got, st)
	}
}

// greatStore has as many items as can be; each holds the words of those that refs names.
func greatStore(refs func(number int) []int) []impl.Item {
	paths, st := plainPathsIn(manyItems(300)), []impl.Item{}
	for number, path := range paths {
		item, data := impl.Item{Path: path, Refs: []string{}}, ""
		for _, to := range slices.Compact(slices.Sorted(slices.Values(refs(number)))) {
			item.Refs = append(item.Refs, paths[to])
			data += paths[to][:13]
		}
		item.Tree = []impl.Entry{{Path: "f", Kind: 2, Data: data}}
		item.Sum = plainTreeSum(item.Tree)
		st = append(st, item)
	}
	return st
}

func TestCollectOfTheGreatestStores(t *testing.T) {
	all := []int{}
	for number := range 300 {
		all = append(all, number)
	}
	paths := plainPathsIn(manyItems(300))
	whole := greatStore(func(int) []int { return all })
	collectIs(t, whole, slices.Repeat(paths, 7)[:2000], whole, nil)
	collectIs(t, whole, paths[299:], whole, nil)
	collectIs(t, whole, nil, nil, paths)
	for most, gone := range map[int64][]string{299: nil, 300: paths, 301: paths} {
		if _, went := impl.CollectSome(whole, nil, most); !same(went, gone) {
			t.Errorf("of what is all one circle, at most %d, %d go", most, len(went))
		}
	}
	chain := greatStore(func(number int) []int { return all[max(number-1, 0):number] })
	backward := slices.Clone(paths)
	slices.Reverse(backward)
	collectIs(t, chain, paths[200:201], chain[:201], paths[201:])
	for _, most := range []int{0, 1, 98, 99, 100, 300} {
		left, went := impl.CollectSome(chain, paths[200:201], int64(most))
		if want := backward[:min(most, 99)]; !same(went, want) || !same(left, chain[:300-len(want)]) {
			t.Errorf("of a chain, at most %d, %d go and %d are left", most, len(went), len(left))
		}
	}
	lower := greatStore(func(number int) []int { return all[:number] })
	if left, went := impl.CollectSome(lower, nil, 300); len(left) > 0 || !same(went, backward) {
		t.Error("of what refers to all ahead", len(went), "go")
	}
	upper := greatStore(func(number int) []int { return all[number:] })
	if left, went := impl.CollectSome(upper, nil, 300); len(left) > 0 || !same(went, paths) {
		t.Error("of what refers to all behind and to itself", len(went), "go")
	}
	pairs := greatStore(func(number int) []int { return []int{number ^ 1} })
	roots := []string{}
	for number := 0; number < 200; number += 2 {
		roots = append(roots, paths[number])
	}
	collectIs(t, pairs, roots, pairs[:200], paths[200:])
	if left, went := impl.CollectSome(pairs, roots, 99); len(left) != 300 || len(went) > 0 {
		t.Error("of pairs", len(went), "go")
	}
	if left, went := impl.CollectSome(pairs, roots, 100); !same(left, pairs[:200]) || !same(went, paths[200:]) {
		t.Error("of pairs", len(went), "go")
	}
}

// However goroutines run, and whoever else asks at the same time, the answer is the same.
func TestCollectIsTheSameEachTime(t *testing.T) {
	st := greatStore(func(number int) []int { return []int{number * 7 % 300, number / 2} })
	paths := plainPathsIn(st)
	roots := []string{}
	for number := 0; number < 2000; number++ {
		roots = append(roots, paths[number*number%97])
	}
	left, gone := impl.Collect(st, roots)
	some, went := impl.CollectSome(st, roots, 60)
	if len(left) == 0 || len(gone) == 0 || len(went) == 0 {
		t.Fatal(len(left), len(gone), len(went))
	}
	for _, procs := range []int{1, 2, 8} {
		before := runtime.GOMAXPROCS(procs)
		answers := make([]string, 8)
		var joined sync.WaitGroup
		for i := range answers {
			joined.Go(func() {
				for range 3 {
					l, g := impl.Collect(st, roots)
					s, w := impl.CollectSome(st, roots, 60)
					if !same(l, left) || !same(g, gone) || !same(s, some) || !same(w, went) {
						answers[i] = fmt.Sprintf("%d and %d go, not %d and %d", len(g), len(w), len(gone), len(went))
					}
				}
			})
		}
		joined.Wait()
		runtime.GOMAXPROCS(before)
		if slices.ContainsFunc(answers, func(answer string) bool { return answer != "" }) {
			t.Error(procs, answers)
		}
	}
}

func TestCollectionsAreNewMemory(t *testing.T) {
	st, stays := roomyAll(plainStore(
		impl.Item{Path: pathAt("1"), From: pathAt("9"), Tree: entriesOf("a/ a/b=" + wordAt("2") + " c>" + wordAt("1"))},
		impl.Item{Path: pathAt("2"), Tree: treeAt("12")},
		impl.Item{Path: pathAt("3"), Tree: treeAt("12")},
		impl.Item{Path: pathAt("4"), Tree: treeAt("35")},
		impl.Item{Path: pathAt("5"), Tree: nil},
	))
	wrong, wrongStays := roomyAll(storeOf("1:2 2:")[:1])
	one, oneStays := roomyAll(pathsAt("9 3 9"))
	two, twoStays := roomyAll(pathsAt("5 1 4 4 1"))
	given := []any{st, wrong, one, two}
	answers, befores := []any{}, []string{}
	see := func(left []impl.Item, gone []string) {
		answer := []any{left, gone}
		if !isNew(answer, given...) {
			t.Errorf("%+v is not new", answer)
		}
		answers = append(answers, answer)
		befores = append(befores, fmt.Sprintf("%+v", answer))
	}
	for range 2 {
		for _, list := range [][]impl.Item{st, wrong, nil} {
			for _, roots := range [][]string{one, two, nil} {
				see(impl.Collect(list, roots))
				for most := int64(-1); most < 6; most++ {
					see(impl.CollectSome(list, roots, most))
				}
			}
		}
	}
	if !stays() || !wrongStays() || !oneStays() || !twoStays() {
		t.Error("an argument was changed")
	}
	for i, answer := range answers {
		if fmt.Sprintf("%+v", answer) != befores[i] {
			t.Errorf("a later call changed %s to %+v", befores[i], answer)
		}
		if !isNew(answer, append(slices.Clone(answers[:i]), answers[i+1:]...)...) {
			t.Errorf("%s shares memory with a later answer", befores[i])
		}
	}
}
