package tests

import (
	"fmt"
	"math"
	"math/rand"
	"runtime"
	"slices"
	"strings"
	"sync"
	"testing"
	"time"

	"loop.example/g00023/impl"
)

// A sessionMaker makes recipes of a few derivations that use each other, and changes the world between them.
type sessionMaker struct{ worldMaker }

func (m sessionMaker) one(texts ...string) string { return texts[m.Intn(len(texts))] }

// drv may use those that stand ahead of it.
func (m sessionMaker) drv(name string, ahead []string) string {
	lines, two, v := []string{}, m.Intn(4) == 0, ""
	if two {
		lines = append(lines, "mkdir d", "into lib d")
	}
	for range m.Intn(4) {
		lines = append(lines, m.one("write f \"A\"", "write f \"A\"", "write f \"B\"", "write "+name+" \"B\"", "mkdir d", "mkdir "+name+"/e", "write g \"A\"; exec g", "link g \"to\"", "mkdir g", "log \"x\"", "log \""+name+"\"", "copy d k", "when v", "cut f", "env e v"))
	}
	for range m.Intn(3) * len(ahead) / 2 {
		used := ahead[m.Intn(len(ahead))] + m.one(".out", ".out", ".out", ".drv", ".lib")
		lines = append(lines, m.one("copy @{"+used+"} c", "copy @{"+used+"} "+name, "write r \"{"+used+"}\"", "need @{"+used+"}", "link r \"{"+used+"}/f\""))
		if m.Intn(4) == 0 {
			v = "w = " + used + ";"
		}
	}
	if m.Intn(12) == 0 {
		lines = append(lines, m.one("need q", "fail \"no\"", "nonsense", "need @"+pathAt(m.name())))
	}
	if two {
		v += "outputs = [\"lib\" \"out\"];"
	}
	if m.Intn(3) == 0 {
		v += "v = " + m.one("1", "\"\"", "true", "\"a b\"") + ";"
	}
	return name + ": " + strings.Join(lines, "; ") + " | " + v
}

func (m sessionMaker) recipe() string {
	drvs, names := []string{}, []string{}
	for _, name := range []string{"a", "b", "c", "d"}[:1+m.Intn(4)] {
		drvs, names = append(drvs, m.drv(name, names)), append(names, name)
	}
	body := []string{}
	for range m.Intn(6) {
		name := names[m.Intn(len(names))]
		body = append(body, m.one(name+".out", name+".out", name+".out", name+".drv", name, "(size "+name+".out)", name+".lib", "{x = "+name+".out; }", "("+name+".lib or 1)"))
	}
	if m.Intn(2) == 0 {
		body = []string{strings.Join(names, ".out ") + ".out"}
	}
	return recipeFor("["+strings.Join(body, " ")+"]", drvs...)
}

// change makes another world of one, of which what was built is mostly still there.
func (m sessionMaker) change(w impl.World, src string) impl.World {
	paths := plainPathsIn(w.Store)
	for _, d := range impl.Eval(src, nil, 5000).Drvs {
		for _, output := range d.Outputs {
			paths = append(paths, impl.OutPath(d, output))
		}
		paths = append(paths, impl.DrvAddress(d))
	}
	some := func() string { return append(paths, pathAt("a"))[m.Intn(len(paths)+1)] }
	switch m.Intn(16) {
	case 0:
		return impl.World{}
	case 1, 2:
		return impl.RunWorld(w, impl.PlanCollect(w), math.MaxInt64)
	case 3, 4, 5:
		w.Profiles = nil
		w.Store, _ = plainWithout(w.Store, []string{some()})
	case 6:
		if at := plainItemAt(w.Store, some()); at >= 0 {
			w.Store = slices.Clone(w.Store)
			w.Store[at].Tree = m.tree(4)
			w.Store = plainStore(w.Store...)
		}
	case 7:
		if path := some(); plainItemAt(w.Store, path) < 0 {
			w = withItem(w, path, m.one("f=A", "d/ d/e/", "", "s=S"), "")
		}
	case 8:
		if path := pathAt(m.name()); plainItemAt(w.Store, path) < 0 {
			w = withItem(w, path, "f="+some(), "")
		}
	case 9, 10:
		w.Pending = append(slices.Clone(w.Pending), impl.Pending{Path: some(), Tree: m.smallTree()})
	case 11:
		w.Nexts = append(slices.Clone(w.Nexts), impl.Next{Name: m.someone(), Path: some()})
	case 12:
		w.Pending = manyPendings(19 + m.Intn(2))
	case 13:
		w.Nexts = manyNexts(19 + m.Intn(2))
	case 14:
		return impl.Recover(w)
	}
	return w
}

func TestSessionsByChance(t *testing.T) {
	m := sessionMaker{worldMaker{storeMaker{treeMaker{rand.New(rand.NewSource(203))}}}}
	w, codes, wrapped := impl.World{}, map[int64]int{}, 0
	for range 3000 {
		src, name := m.recipe(), m.someone()
		w = m.change(m.change(w, src), src)
		if !impl.WorldOk(w) || m.Intn(40) == 0 {
			spoiled := m.spoilWorld(w)
			realise(t, spoiled, src, nil, 5000, 100)
			install(t, spoiled, name, src, nil, 5000, 100)
			standing(t, spoiled, name)
			w = impl.World{}
		}
		r := realise(t, w, src, nil, 5000, 100)
		if r.Code == 0 || r.Code > 100 {
			realiseHolds(t, w, src, r)
		}
		i := install(t, w, name, src, nil, 5000, 100)
		if i.Code == 0 && len(i.Writes) > 0 && profileAt(i.World.Profiles, name).Now < 50 {
			wrapped += len(r.Paths)
			installHolds(t, w, name, src, i)
		}
		codes[i.Code]++
		some := []string{}
		for range m.Intn(4) * min(1, len(i.World.Store)) {
			some = append(some, i.World.Store[m.Intn(len(i.World.Store))].Path)
		}
		tree, ok := impl.Wrap(i.World, some)
		if plain, plainOk := plainWrap(i.World, some); ok != plainOk || !same(tree, plain) {
			t.Errorf("%q wrapped: %v, %v", some, tree, ok)
		}
		standing(t, i.World, m.someone())
		if i.Code != 100 && m.Intn(3) > 0 {
			w = i.World
		}
	}
	for code, least := range map[int64]int{0: 500, 7: 50, 203: 30, 204: 10, 205: 30, 208: 10, 209: 30, 210: 30, 302: 5, 303: 5, 304: 20, 400: 50, 500: 20} {
		if codes[code] < least {
			t.Errorf("%d: only %d times, of %v", code, codes[code], codes)
		}
	}
	if wrapped < 500 {
		t.Error(wrapped)
	}
}

// manyDrvs makes so many derivations, each of which uses all that stand ahead of it.
func manyDrvs(n int, program string) string {
	numbers := []string{}
	for i := range n {
		numbers = append(numbers, fmt.Sprint(i))
	}
	return "fold (s: n: let d = derive { name = \"n\" + text n; builder = " + programText(program) + "; all = s.all; }; in { all = part (s.all + d.out) 0 0; }) { all = \"\"; } [" + strings.Join(numbers, " ") + "]"
}

func TestTheGreatestSessions(t *testing.T) {
	began := time.Now()
	src := manyDrvs(300, "write n{text n} \"{s.all}\"; log \"{text n}\"")
	r := impl.Realise(impl.World{}, src, nil, 50000, 10000)
	if r.Code != 0 || len(r.Made) != 300 || len(r.Log) != 300 || len(r.Paths) != 300 || len(r.World.Store) != 300 {
		t.Fatal(r.Code, len(r.Made), len(r.Paths))
	}
	again := impl.Realise(r.World, src, nil, 50000, 0)
	if again.Code != 0 || len(again.Made) != 0 || !same(again.Paths, r.Paths) || !same(again.World, r.World) {
		t.Error(again.Code, len(again.Made))
	}
	one := impl.Realise(impl.World{}, manyDrvs(301, "write n{text n} \"\"; log \"{text n}\""), nil, 50000, 10000)
	if one.Code != 304 || len(one.World.Store) != 300 || !same(one.Log, []string{"300"}) || !strings.HasSuffix(one.Which, "-n300.drv") || len(one.Made) != 0 {
		t.Error(one.Code, len(one.World.Store), one.Which)
	}
	tree, ok := impl.Wrap(r.World, r.Paths)
	if !ok || len(tree) != 300 {
		t.Error(ok, len(tree))
	}
	full := impl.Install(impl.World{}, "me", src, nil, 50000, 10000)
	if full.Code != 500 || len(full.World.Store) != 300 {
		t.Error(full.Code)
	}
	fits := impl.Install(impl.World{}, "me", manyDrvs(299, "write n{text n} \"\""), nil, 50000, 10000)
	if fits.Code != 0 || len(fits.World.Store) != 300 || len(impl.Needed(fits.World, "me")) != 300 {
		t.Error(fits.Code)
	}
	// Each is given all that stand ahead of it, and these are great trees.
	great := recipeFor(strings.Replace(manyDrvs(290, "copy @{great.out} k"), "{ all = \"\"; }", "{ all = part (great.out + base.out) 0 0; }", 1), "base: "+directories(163), "great: copy @{base.out} p; copy @{base.out} q; copy @{base.out} r")
	if r = impl.Realise(impl.World{}, great, nil, 50000, 10000); r.Code != 0 || len(r.World.Store) != 292 || impl.Optimise(r.World.Store) != 0 {
		t.Error(r.Code, r.Which)
	}
	for _, item := range r.World.Store {
		if size := len(item.Tree); size != 163 && size != 3*164 && size != 3*164+1 {
			t.Errorf("%q has %d entries", item.Path, size)
		}
	}
	if took := time.Since(began); took > 20*time.Second {
		t.Error("it took", took)
	}
}

// The greatest trees, all of them in one store: the very same ones go together, however often.
func TestTheGreatestWraps(t *testing.T) {
	began := time.Now()
	w := impl.World{Store: manyItems(300)}
	for i := range w.Store {
		w.Store[i].Tree = manyEntries(500)
	}
	w.Store = plainStore(w.Store...)
	paths := slices.Repeat(plainPathsIn(w.Store), 7)[:2000]
	tree, ok := impl.Wrap(w, paths)
	if !ok || len(tree) != 500 {
		t.Error(ok, len(tree))
	}
	if _, ok := impl.Wrap(w, append(paths, paths[0])); ok {
		t.Error("a path too many")
	}
	big := strings.Repeat("x", 20000)
	for i := range w.Store {
		w.Store[i].Tree = []impl.Entry{{Path: fmt.Sprint("f", i), Kind: 2, Data: big}, {Path: fmt.Sprint("g", i), Kind: 2, Data: big}}
		if i == 299 {
			w.Store[i].Tree = nil
		}
	}
	w.Store = plainStore(w.Store[:290]...)
	src := recipeFor("[a.out b.out]", recipeA, recipeB)
	i := impl.Install(w, "me", src, nil, 5000, 100)
	if i.Code != 0 || len(i.World.Store) != 293 || len(impl.Needed(i.World, "me")) != 3 {
		t.Error(i.Code, len(i.World.Store))
	}
	if took := time.Since(began); took > 20*time.Second {
		t.Error("it took", took)
	}
}

// Whoever else asks at the same time, the answer is the same, and no goroutine is left behind.
func TestSessionsAreTheSameEachTime(t *testing.T) {
	before := runtime.NumGoroutine()
	m := sessionMaker{worldMaker{storeMaker{treeMaker{rand.New(rand.NewSource(204))}}}}
	shops := deployMaker{solveMaker{m.Rand}}
	worlds, sources, problems := []impl.World{}, []string{}, []impl.Problem{}
	for range 8 {
		src := m.recipe()
		worlds, sources, problems = append(worlds, m.change(m.world(), src)), append(sources, src), append(problems, shops.problem())
	}
	answers := func(number int) string {
		w, src, p := worlds[number], sources[number], problems[number]
		r, i, d := impl.Realise(w, src, nil, 5000, 100), impl.Install(w, "me", src, nil, 5000, 100), impl.Deploy(w, "me", p, 100)
		tree, ok := impl.Wrap(i.World, r.Paths)
		text, code := impl.Compose(p)
		return fmt.Sprint(r, i, d, tree, ok, text, code, impl.Needed(i.World, "me"), impl.Needed(d.World, "me"))
	}
	wants := []string{}
	for number := range worlds {
		wants = append(wants, answers(number))
	}
	for _, procs := range []int{1, 2, 8} {
		was := runtime.GOMAXPROCS(procs)
		var joined sync.WaitGroup
		for number := range worlds {
			joined.Go(func() {
				for range 20 {
					if got := answers(number); got != wants[number] {
						t.Errorf("%d: another answer: %.300q", procs, got)
					}
				}
			})
		}
		joined.Wait()
		runtime.GOMAXPROCS(was)
	}
	for range 1000 {
		if runtime.NumGoroutine() <= before {
			return
		}
		time.Sleep(time.Millisecond)
	}
	t.Errorf("%d goroutines, not %d", runtime.NumGoroutine(), before)
}

// memorySources have texts of more than one byte only: Go keeps those of one byte in a place of its own.
func memorySources() []string {
	aa, bb := "aa: mkdir dd; write dd/ff \"text\"; log \"made aa\"; into lib dd | outputs = [\"lib\" \"out\"];", "bb: copy @{aa.out} cc; write gg \"{aa.lib}\"; log \"made bb\" | vv = \"value\";"
	return []string{
		recipeFor("[bb.out aa.lib]", aa, bb), recipeFor("bb", aa, bb), recipeFor("[aa.drv aa.out]", aa), recipeFor("bb.out", aa, bb, "cc: ")[:40],
		recipeFor("[aa.out zz.out]", aa, "zz: log \"made zz\"; need qq"), recipeFor("[aa.out zz.out]", aa, "zz: mkdir dd; write dd/ff \"other\"; log \"made zz\""), "throw \"thrown\"", "\"text\"", "(import \"file\").out",
	}
}

func TestSessionsAreNewMemory(t *testing.T) {
	given, stays, worlds := []any{}, []func() bool{}, []impl.World{}
	there := impl.Install(memoryWorlds()[0], "me", memorySources()[0], nil, 5000, 100).World
	for _, w := range append(memoryWorlds(), there) {
		w, stay := roomyAll(w)
		worlds, given, stays = append(worlds, w), append(given, w), append(stays, stay)
	}
	lib, libStays := roomyAll([]impl.File{{Name: "file", Text: "derive { name = \"file\"; builder = \"write ff \\\"text\\\"\\nlog \\\"made file\\\"\"; }"}})
	paths, pathsStay := roomyAll(slices.Concat(pathsAt("a c"), pathsAt("a a"), plainPathsIn(there.Store)))
	p := problem(shop(), "app *;doc *;lib *")
	p.Flags, p.Lock = []string{"old", "new"}, picksOf("app 1.0, doc 1.1")
	none := problem(shop(), "none *")
	p, pStays := roomyAll(p)
	none, noneStays := roomyAll(none)
	name, sources := strings.Clone("name"), []string{}
	for _, src := range memorySources() {
		sources = append(sources, strings.Clone(src))
	}
	given, stays = append(given, lib, paths, p, none, name, sources), append(stays, libStays, pathsStay, pStays, noneStays)
	answers, befores := []any{}, []string{}
	see := func(answer any) {
		if !isNew(answer, given...) {
			t.Errorf("%.900v is not new", answer)
		}
		answers = append(answers, answer)
		befores = append(befores, fmt.Sprint(answer))
	}
	for number, w := range worlds {
		for i, src := range sources {
			if number == 0 || number == 5 || i == number {
				see(impl.Realise(w, src, lib, 5000, 100))
				see(impl.Install(w, name, src, lib, 5000, 100))
			}
		}
		see(impl.Realise(w, sources[0], lib, 5000, -1))
		see(impl.Install(w, ".", sources[0], lib, 5000, 100))
		see(impl.Deploy(w, name, p, 100))
		see(impl.Deploy(w, name, none, 100))
		see(impl.Needed(w, "me"))
		for _, some := range [][]string{paths[:1], paths[:2], paths[2:4], paths[4:], nil} {
			tree, ok := impl.Wrap(w, some)
			see([]any{tree, ok})
		}
	}
	text, _ := impl.Compose(p)
	see(text)
	for i, stay := range stays {
		if !stay() {
			t.Error("an argument was changed:", i)
		}
	}
	for i, answer := range answers {
		if fmt.Sprint(answer) != befores[i] {
			t.Errorf("a later call changed %s to %v", befores[i], answer)
		}
		if i%7 == 0 && !isNew(answer, append(slices.Clone(answers[:i]), answers[i+1:]...)...) {
			t.Errorf("%s shares memory with another answer", befores[i])
		}
	}
}

// What is written into an argument behind a call is not seen in its answer.
func TestSessionsDoNotHangOnWhatWasGiven(t *testing.T) {
	w, _ := roomyAll(worldOf("a: b:a c: ; me:1 1a ; d:b ; me=b"))
	lib, paths, p := []impl.File{{Name: "file", Text: recipeFor("a", recipeA)}}, pathsAt("a"), problem(shop(), "app *")
	r, i, d := impl.Realise(w, "(import \"file\").out", lib, 5000, 100), impl.Install(w, "me", "1", lib, 5000, 100), impl.Deploy(w, "me", p, 100)
	tree, _ := impl.Wrap(w, paths)
	shown := fmt.Sprint(r, i, d, tree)
	w.Store[0].Tree[0].Data, w.Store[1].Refs[0], w.Store[2] = "?", "?", impl.Item{}
	w.Profiles[0].Gens[0].Path, w.Pending[0].Tree[0].Path, w.Nexts[0] = "?", "?", impl.Next{}
	lib[0], paths[0], p.Index[0].Source, p.Wants[0] = impl.File{}, "?", "?", impl.Wanted{}
	if got := fmt.Sprint(r, i, d, tree); got != shown {
		t.Errorf("%s\nnot\n%s", got, shown)
	}
	// Nor is what is written into an answer seen in another one.
	w = worldOf("a: b:a c: ; me:1 1a ; d:b ; me=b")
	first, second := impl.Install(w, "me", recipeFor("a.out", recipeA), nil, 5000, 100), impl.Install(w, "me", recipeFor("a.out", recipeA), nil, 5000, 100)
	shown = fmt.Sprint(second)
	for n := range first.World.Store {
		first.World.Store[n].Tree[0].Data, first.World.Store[n].Path = "?", "?"
	}
	first.Writes[0].Tree[0].Data, first.Writes[1].Path, first.World.Profiles[0].Gens[0].Path = "?", "?", "?"
	if got := fmt.Sprint(second); got != shown || !same(w, worldOf("a: b:a c: ; me:1 1a ; d:b ; me=b")) {
		t.Errorf("%s\nnot\n%s", got, shown)
	}
}

// No text and no number makes a function panic.
func TestSessionsAnswerAtEveryArgument(t *testing.T) {
	m := sessionMaker{worldMaker{storeMaker{treeMaker{rand.New(rand.NewSource(205))}}}}
	numbers := []int64{math.MinInt64, -1, 0, 1, 2, 10000, 10001, 50000, 50001, math.MaxInt64}
	for range 1500 {
		w, src := m.world(), m.recipe()
		if m.Intn(3) == 0 {
			w = m.spoilWorld(w)
		}
		if m.Intn(3) == 0 {
			at := m.Intn(len(src))
			src = src[:at] + m.one("", "\x00", "\"", ";", "}", "é", "let", "derive") + src[min(len(src), at+m.Intn(3)):]
		}
		budget, steps := numbers[m.Intn(len(numbers))], numbers[m.Intn(len(numbers))]
		lib := []impl.File{{Name: m.one("f", "", "a b"), Text: src}}
		name := m.one("me", "", ".", "é", "a/b")
		realise(t, w, src, lib, budget, steps)
		install(t, w, name, src, lib, budget, steps)
		wrapped, ok := impl.Wrap(w, []string{name, src})
		if ok || len(wrapped) > 0 {
			t.Error(wrapped)
		}
		p := impl.Problem{Index: []impl.Recipe{{Name: m.one("a", "b", "", "."), Version: m.one("1", "", "x"), When: m.one("true", "false", ""), Source: src}}, Wants: wantsOf(m.one("a *", "b *", "", "a")), Flags: []string{name}}
		deploy(t, w, m.one("me", name), p, steps)
		standing(t, w, name)
	}
}
