package tests

import (
	"fmt"
	"math"
	"math/rand"
	"runtime"
	"slices"
	"strings"
	"sync"
	"testing"
	"time"

	"loop.example/g00023/impl"
)

// actsText tells acts as "-web ~db +log": a stop, a restart, a start.
func actsText(as []impl.Act) string {
	words := []string{}
	for _, a := range as {
		sign := map[int64]string{impl.ActStop: "-", impl.ActStart: "+", impl.ActRestart: "~"}[a.Kind]
		if sign == "" {
			sign = fmt.Sprint(a.Kind)
		}
		words = append(words, sign+a.Name)
	}
	return strings.Join(words, " ")
}

func planIs(t *testing.T, old []impl.Unit, new []impl.Unit, running []string, want string) {
	t.Helper()
	if plain := actsText(plainPlan(old, new, running)); plain != want {
		t.Errorf("%.200q to %.200q, running %.200q: plain words: %q, not %q", fmt.Sprint(old), fmt.Sprint(new), running, plain, want)
	}
	if got := actsText(impl.PlanUnits(old, new, running)); got != want {
		t.Errorf("%.200q to %.200q, running %.200q: %q, not %q", fmt.Sprint(old), fmt.Sprint(new), running, got, want)
	}
}

// plansAre are rows: old units, new ones, what runs, and the plan.
func plansAre(t *testing.T, rows [][4]string) {
	t.Helper()
	for _, r := range rows {
		old, new, running := unitsOf(r[0]), unitsOf(r[1]), strings.Fields(r[2])
		if !plainUnitsOk(old) || !plainUnitsOk(new) {
			t.Errorf("%q can't be", r)
		}
		planIs(t, old, new, running, r[3])
		planHolds(t, old, new, running)
	}
}

func TestPlanUnits(t *testing.T) {
	const chain = "a <b; b <c; c"
	plansAre(t, [][4]string{
		// From nothing, to nothing, to the same.
		{"", "", "", ""}, {"", "", "a", ""}, {"", chain, "", "+c +b +a"}, {"", chain, "b", "+c +a"}, {"", chain, "a b c", ""}, {chain, "", "a b c", "-a -b -c"}, {chain, "", "", ""}, {chain, "", "b", "-b"}, {chain, "", "c a", "-a -c"},
		{chain, chain, "a b c", ""}, {chain, chain, "", "+c +b +a"}, {chain, chain, "c", "+b +a"}, {chain, chain, "z", "+c +b +a"},
		{"db <net; net; web !db; x !gone", "db =new; log; net", "db web", "-web ~db +log +net"},
		// Stops go against the order of old, ahead of all else, whatever the order of new is.
		{"a; b; c", "", "a b c", "-c -b -a"}, {"a; b; c", "", "c a b", "-c -b -a"}, {"a <c; b; c", "", "a b c", "-a -c -b"}, {"a <c; b; c", "b", "a c", "-a -c +b"}, {"a; b <a; c <b; d", "a; d <a", "a b c", "-c -b +d"},
		{"a =x; b; c; d !c", "a =y; e", "a b c d", "-d -c -b ~a +e"}, {"b <c; c", "a <z; z", "b c", "-b -c +z +a"},
		// Those that never can there come first, descending.
		{"a; b !none; c; d <d", "", "a b c d", "-d -b -c -a"}, {"a <b; b <a; c; d !a", "", "a b c d", "-d -b -a -c"}, {"a !none; b !a; c !b", "", "a b c", "-c -b -a"}, {"a <b; b <b; c <b; d", "", "d c b a", "-c -b -a -d"},
		{"a <b; b; c !none", "b", "a b c", "-c -a"}, {"a !none; b; c !none; d <b", "c !none", "a b c d", "-a -d -b"},
		// What never can in new is left out, whether it runs or not, whether it was there or not.
		{"", "a !none; b", "", "+b"}, {"", "a !none; b", "a", "+b"}, {"a", "a !none; b", "a", "+b"}, {"a =x", "a =y !none; b", "a b", ""}, {"a", "a <a; b <a; c", "", "+c"}, {"a", "a <a; b <a; c", "b", "+c"}, {"a; b", "a <b; b <a", "a", ""}, {"", "a !none", "", ""},
		{"a =x; b", "a =y <b; b <a; c", "a b", "+c"},
		// One that runs and is in neither, in old alone, in new alone, in both.
		{"a", "b", "c", "+b"}, {"a", "b", "a", "-a +b"}, {"a", "b", "b", ""}, {"a", "b", "a b", "-a"}, {"a", "a", "a", ""}, {"a", "a", "", "+a"}, {"a", "b", "", "+b"}, {"a", "b", "a b c", "-a"}, {"", "a =x", "a", ""},
		// Another Exec restarts what runs, unless it is kept in new.
		{"a =x", "a =x", "a", ""}, {"a =x", "a =y", "a", "~a"}, {"a =x", "a =y", "", "+a"}, {"a", "a =y", "a", "~a"}, {"a =x", "a", "a", "~a"}, {"a =x", "a =X", "a", "~a"},
		{"a =x *", "a =y", "a", "~a"}, {"a =x", "a =y *", "a", ""}, {"a =x *", "a =y *", "a", ""}, {"a =x", "a =y *", "", "+a"}, {"a =x *", "a =x", "a", ""}, {"a =x", "a =x *", "a", ""},
		{"a <b =x", "a !c =x; c", "a", "+c"}, {"a =x; b =x; c =x", "a =y <c; b =y; c =z", "a c", "+b ~c ~a"}, {"a =x; b =x", "a =y <b; b =y", "a b", "~b ~a"}, {"a =x <b; b =x", "a =y; b =y <a", "a b", "~a ~b"},
		// Names that are alike.
		{"a; a-; aa", "a.", "a a- aa", "-aa -a- -a +a."}, {"A", "a", "a", ""}, {"A", "a", "A", "-A +a"},
	})
	if impl.ActStop != 1 || impl.ActStart != 2 || impl.ActRestart != 3 {
		t.Error("other kinds")
	}
}

func TestPlansOfWhatCantBe(t *testing.T) {
	good := unitsOf("a; b")
	for _, row := range []string{"b; a", "a; a", "a <b,a", "a !b,b", "a !.b", ".a", "a; b <a/b"} {
		bad := unitsOf(row)
		planIs(t, bad, good, []string{"a"}, "")
		planIs(t, good, bad, []string{"a"}, "")
		planIs(t, bad, bad, []string{"a"}, "")
		planIs(t, nil, bad, nil, "")
		planIs(t, bad, nil, []string{"a", "b"}, "")
	}
	planIs(t, good, manyUnits(101), []string{"a"}, "")
	planIs(t, manyUnits(101), good, []string{"a", "n0007"}, "")
	planIs(t, good, good, nil, "+a +b")
}

// Whatever runs is a text: none has to be a name, and each counts once.
func TestPlansOfWhatRuns(t *testing.T) {
	old, new := unitsOf("a; b; c =x"), unitsOf("b; c =y; d")
	for _, running := range [][]string{{"", "a ", " a", "a\x00", "\xff", ".", "A"}, {"aa", "a/b", strings.Repeat("n", 500)}} {
		planIs(t, old, new, running, "+b +c +d")
		planIs(t, old, new, append(slices.Clone(running), "a", "c"), "-a +b ~c +d")
		planIs(t, old, old, append([]string{"b"}, running...), "+a +c")
	}
	planIs(t, old, new, []string{"a", "a", "c", "a", "c"}, "-a +b ~c +d")
	planIs(t, old, new, []string{"d", "c", "d", "b"}, "~c")
	many := slices.Repeat([]string{"x"}, 2001)
	many[1999] = "a"
	planIs(t, old, new, many[:2000], "-a +b +c +d")
	planIs(t, old, new, many[1:], "-a +b +c +d")
	planIs(t, old, new, many, "")
	planIs(t, old, new, slices.Repeat([]string{"c"}, 2000), "+b ~c +d")
	planIs(t, old, new, slices.Repeat([]string{"c"}, 2001), "")
	planIs(t, nil, new, manyNames(2000), "+b +c +d")
	planIs(t, nil, new, manyNames(2001), "")
}

func actsAre(t *testing.T, running []string, as []impl.Act, want []string) {
	t.Helper()
	if plain := plainActsDone(running, as); !same(plain, want) {
		t.Errorf("%.200q, running %.200q: plain words: %.200q, not %.200q", actsText(as), running, plain, want)
	}
	if got := impl.ApplyActs(running, as); !same(got, want) {
		t.Errorf("%.200q, running %.200q: %.200q, not %.200q", actsText(as), running, got, want)
	}
}

func TestApplyActs(t *testing.T) {
	of := func(row string) []impl.Act {
		acts := []impl.Act{}
		for _, word := range strings.Fields(row) {
			kind := map[byte]int64{'-': impl.ActStop, '+': impl.ActStart, '~': impl.ActRestart, '0': 0, '4': 4, '_': -1, '^': math.MaxInt64, 'v': math.MinInt64, '7': 1 << 32, '8': 1<<32 + 1}[word[0]]
			acts = append(acts, impl.Act{Kind: kind, Name: word[1:]})
		}
		return acts
	}
	for _, r := range [][3]string{
		{"", "", ""}, {"a", "", "a"}, {"b a", "", "a b"}, {"b a b a", "", "a b"}, {"b B a.b a", "", "B a a.b b"},
		{"", "-a", ""}, {"", "+a", "a"}, {"", "~a", "a"}, {"a", "-a", ""}, {"a", "+a", "a"}, {"a", "~a", "a"},
		{"a", "0a", "a"}, {"", "0a", "a"}, {"", "4a _b ^c vd 7e 8f", "a b c d e f"}, {"a b", "4a _b ^c", "a b c"},
		{"a a", "-a", ""}, {"a b", "-b", "a"}, {"a b", "-c", "a b"}, {"b", "+a +c", "a b c"}, {"b", "+c +a", "a b c"},
		// One by one: the last one counts.
		{"a", "-a +a", "a"}, {"a", "+a -a", ""}, {"", "-a +a", "a"}, {"", "+a -a", ""}, {"", "~a -a", ""}, {"", "-a ~a", "a"}, {"", "+a +a", "a"}, {"a", "-a -a", ""}, {"", "+a -a +a", "a"}, {"a", "-a +a -a", ""}, {"", "0a -a 4a", "a"},
		{"db web", "-web ~db +log +net", "db log net"}, {"z", "+a -z +b ~z -a", "b z"},
	} {
		actsAre(t, strings.Fields(r[0]), of(r[1]), strings.Fields(r[2]))
	}
	// Names may be any texts.
	actsAre(t, []string{"", "\xff", "a b"}, []impl.Act{{Kind: 1, Name: "a b"}, {Kind: 2, Name: " "}, {Kind: 3, Name: ".x"}, {}}, []string{"", " ", ".x", "\xff"})
	actsAre(t, []string{""}, []impl.Act{{Kind: 1}}, nil)
	actsAre(t, nil, []impl.Act{{}}, []string{""})
}

func TestApplyActsOfMany(t *testing.T) {
	names := manyNames(4000)
	stop, start := []impl.Act{}, []impl.Act{}
	for i := range 2001 {
		stop = append(stop, impl.Act{Kind: impl.ActStop, Name: names[i]})
		start = append(start, impl.Act{Kind: impl.ActStart, Name: names[1999+i]})
	}
	actsAre(t, names[:2000], nil, names[:2000])
	actsAre(t, names[:2001], nil, nil)
	actsAre(t, names[:2000], stop[:1999], names[1999:2000])
	actsAre(t, names[:2000], stop[:2000], nil)
	actsAre(t, names[:2000], stop, nil)
	actsAre(t, nil, start[:2000], names[1999:3999])
	actsAre(t, nil, start[1:], names[2000:])
	actsAre(t, nil, start, nil)
	actsAre(t, names[:2000], start[:2000], names[:3999])
	actsAre(t, names[:2000], start[1:], names)
	actsAre(t, names[:2001], start[:1], nil)
	actsAre(t, names[:2001], start, nil)
	actsAre(t, slices.Repeat([]string{"a"}, 2000), stop[:1], []string{"a"})
	actsAre(t, slices.Repeat([]string{"a"}, 2001), stop[:1], nil)
	actsAre(t, []string{"a"}, slices.Repeat([]impl.Act{{Kind: 1, Name: "a"}}, 2000), nil)
	actsAre(t, []string{"b"}, slices.Repeat([]impl.Act{{Kind: 1, Name: "a"}}, 2001), nil)
}

// planHolds holds a plan against plain words, and the promises against the plan.
func planHolds(t *testing.T, old []impl.Unit, new []impl.Unit, running []string) []impl.Act {
	t.Helper()
	plan := impl.PlanUnits(old, new, running)
	if want := plainPlan(old, new, running); !same(plan, want) {
		t.Fatalf("%+v to %+v, running %q: %q, not %q", old, new, running, actsText(plan), actsText(want))
	}
	if !impl.UnitsOk(old) || !impl.UnitsOk(new) || len(running) > 2000 {
		return plan
	}
	stepsHold(t, old, new, running, plan)
	after := leadsWhereItShould(t, old, new, running, plan)
	anyPartHolds(t, old, new, running, plan, after)
	return plan
}

// stepsHold does the acts one by one: at each, all that runs then is as it has to be for it.
func stepsHold(t *testing.T, old []impl.Unit, new []impl.Unit, running []string, plan []impl.Act) {
	t.Helper()
	runs, seen := plainActsDone(running, nil), []string{}
	can, _ := plainStartOrder(old)
	for _, a := range plan {
		isGood := !slices.Contains(seen, a.Name)
		switch at := plainUnitAt(new, a.Name); {
		case a.Kind == impl.ActStop:
			isGood = isGood && at < 0 && slices.Contains(runs, a.Name)
			for _, name := range can { // who waited for it, and goes too, has gone
				if waits := plainWaits(old, old[plainUnitAt(old, name)]); slices.Contains(waits, a.Name) && slices.Contains(runs, name) && plainUnitAt(new, name) < 0 {
					isGood = false
				}
			}
		case at < 0:
			isGood = false
		default:
			isGood = isGood && slices.Contains(runs, a.Name) == (a.Kind == impl.ActRestart) && hasAll(runs, plainWaits(new, new[at]))
		}
		if !isGood {
			t.Fatalf("%+v to %+v, running %q: %q: %v", old, new, running, actsText(plan), a)
		}
		seen, runs = append(seen, a.Name), plainActsDone(runs, []impl.Act{a})
	}
}

// leadsWhereItShould: what can of new runs; of what ran before that stays which is in neither, and what is in new and never can, since no act is for that.
func leadsWhereItShould(t *testing.T, old []impl.Unit, new []impl.Unit, running []string, plan []impl.Act) []string {
	t.Helper()
	after := impl.ApplyActs(running, plan)
	want, _ := plainStartOrder(new)
	for _, name := range running {
		if plainUnitAt(old, name) < 0 || plainUnitAt(new, name) >= 0 {
			want = append(want, name)
		}
	}
	slices.Sort(want)
	if !same(after, slices.Compact(want)) {
		t.Fatalf("%+v to %+v, running %q: %q leads to %q", old, new, running, actsText(plan), after)
	}
	for _, a := range impl.PlanUnits(old, new, after) {
		if a.Kind != impl.ActRestart {
			t.Fatalf("%+v to %+v, running %q: then %v is still to be done", old, new, running, a)
		}
	}
	if left := impl.PlanUnits(new, new, after); len(left) > 0 {
		t.Fatalf("%+v to %+v, running %q: then %q is still to be done", old, new, running, actsText(left))
	}
	return after
}

// anyPartHolds does each beginning of a plan, and if it is short any part at all, and plans anew from there.
func anyPartHolds(t *testing.T, old []impl.Unit, new []impl.Unit, running []string, plan []impl.Act, after []string) {
	t.Helper()
	parts := [][]impl.Act{}
	for n := range plan {
		parts = append(parts, plan[:n], plan[n:])
	}
	for chosen := range 1 << min(len(plan), 5) {
		part := []impl.Act{}
		for i, a := range plan {
			if chosen>>i&1 == 1 {
				part = append(part, a)
			}
		}
		parts = append(parts, part)
	}
	for _, part := range parts {
		runs := impl.ApplyActs(running, part)
		if again := impl.ApplyActs(runs, impl.PlanUnits(old, new, runs)); !same(again, after) {
			t.Fatalf("%+v to %+v, running %q: after %q it leads to %q, not %q", old, new, running, actsText(part), again, after)
		}
	}
}

// Every pair of these systems, with every choice of what runs.
func TestEverySmallPlan(t *testing.T) {
	systems := []string{
		"", "a", "b", "a; b", "a; b; c", "a <b; b", "a; b <a", "a !b; b; c <a", "a <b; b <c; c", "a; b !a; c !b",
		"a =x", "a =x *", "a =x; b =x", "a =y !b; b =y *", "a =x; b =y <a; c =x", "a !none; b; c", "a !none =x; b; c !a", "a <b; b <a; c", "a <a; b =x; c <b", "a; b; c !none =y", "c", "b <c; c",
	}
	all := []string{"a", "b", "c", "z"}
	signs := map[int64]int{}
	for _, one := range systems {
		for _, two := range systems {
			for chosen := range 1 << len(all) {
				running := []string{}
				for i, name := range all {
					if chosen>>i&1 == 1 {
						running = append(running, name)
					}
				}
				for _, a := range planHolds(t, unitsOf(one), unitsOf(two), running) {
					signs[a.Kind]++
				}
			}
		}
	}
	if signs[impl.ActStop] < 1000 || signs[impl.ActStart] < 1000 || signs[impl.ActRestart] < 1000 || len(signs) != 3 {
		t.Error(signs)
	}
}

func TestPlansByChance(t *testing.T) {
	m := unitMaker{rand.New(rand.NewSource(183))}
	outcomes := map[string]int{}
	for range 8000 {
		old := m.units()
		new := m.units()
		if m.Intn(3) == 0 { // what is only a little changed
			new = slices.Clone(old)
			for i := range new {
				if m.Intn(4) == 0 {
					new[i].Exec, new[i].Keep, new[i].After = m.one("", "x", "y"), m.Intn(2) == 0, m.some(5, chanceUnits...)
				}
			}
		}
		if m.Intn(30) == 0 {
			m.spoil(old)
			m.spoil(new)
		}
		running := m.some(1+m.Intn(4), chanceUnits...)
		if m.Intn(5) == 0 {
			running = append(running, m.one("", "?", "a", "b", "zz"))
		}
		plan := planHolds(t, old, new, running)
		if !impl.UnitsOk(old) || !impl.UnitsOk(new) {
			outcomes["can't be"]++
		}
		for _, a := range plan {
			outcomes[fmt.Sprint(a.Kind)]++
		}
		outcomes[fmt.Sprint(len(plan), " acts")]++
	}
	for _, kind := range []string{"can't be", "1", "2", "3", "0 acts", "4 acts", "6 acts"} {
		if outcomes[kind] < 50 {
			t.Error(kind, outcomes)
		}
	}
}

// Acts of any kind and name, one behind the other.
func TestActsByChance(t *testing.T) {
	m := unitMaker{rand.New(rand.NewSource(184))}
	for range 20000 {
		running, acts := []string{}, []impl.Act{}
		for range m.Intn(6) {
			running = append(running, m.one("", "a", "b", "c", "aa", "\xff"))
		}
		for range m.Intn(8) {
			acts = append(acts, impl.Act{Kind: []int64{1, 1, 1, 2, 3, 0, 4, -1}[m.Intn(8)], Name: m.one("", "a", "b", "c", "aa", ".")})
		}
		got := impl.ApplyActs(running, acts)
		if want := plainActsDone(running, acts); !same(got, want) || !plainRises(got) {
			t.Fatalf("%q, running %q: %q, not %q", actsText(acts), running, got, want)
		}
		for cut := range acts { // in two goes it is the same
			if parted := impl.ApplyActs(impl.ApplyActs(running, acts[:cut]), acts[cut:]); !same(parted, got) {
				t.Fatalf("%q, running %q, parted at %d: %q, not %q", actsText(acts), running, cut, parted, got)
			}
		}
	}
}

func TestPlansOfTheGreatestSystems(t *testing.T) {
	names := manyNames(200)
	old, new := manyUnits(100), manyUnits(100)
	for i := range 100 {
		new[i].Name = names[50+i]
		old[i].Exec, new[i].Exec, new[i].Keep = "old", "new", i%5 == 0
		old[i].Needs = names[max(0, i-20):i]
		new[i].After = names[51+i : min(150, 71+i)]
	}
	want := []string{}
	for i := 49; i >= 0; i-- {
		want = append(want, "-"+names[i])
	}
	for i := 99; i >= 0; i-- {
		if sign := map[bool]string{true: "~", false: "+"}[i < 50]; i >= 50 || i%5 != 0 {
			want = append(want, sign+names[50+i])
		}
	}
	began := time.Now()
	running := append(slices.Clone(names[:100]), manyNames(2000)[180:2000]...)
	plan := impl.PlanUnits(old, new, running)
	if got := actsText(plan); got != strings.Join(want, " ") {
		t.Errorf("%q, not %q", got, want)
	}
	after := append(slices.Clone(names[50:150]), manyNames(2000)[180:]...)
	for n := range plan {
		runs := impl.ApplyActs(running, plan[:n])
		if again := impl.ApplyActs(runs, impl.PlanUnits(old, new, runs)); !same(again, after) {
			t.Fatalf("after %d acts it leads to %q", n, again)
		}
	}
	if took := time.Since(began); took > 20*time.Second {
		t.Error("it took", took)
	}
}

// Whoever else asks at the same time, the answer is the same, and no goroutine is left behind.
func TestServicesAreTheSameEachTime(t *testing.T) {
	before := runtime.NumGoroutine()
	m := unitMaker{rand.New(rand.NewSource(185))}
	names := manyNames(100)
	lists := [][]impl.Unit{}
	for number := range 4 {
		us := manyUnits(100)
		for i := range us {
			us[i].Exec = m.one("x", "y")
			us[i].After = m.some(10+20*number, names[:i]...)
			if number == 3 {
				us[i].After = m.some(60, names...)
			}
			us[i].After = us[i].After[:min(20, len(us[i].After))]
			us[i].Needs = m.some(20, names[:i]...)
		}
		lists = append(lists, us)
	}
	answers := func(number int) string {
		us, next := lists[number%4], lists[(number+1)%4]
		order, all := impl.StartOrder(us)
		plan := impl.PlanUnits(us, next[:60], names[:number%90])
		return fmt.Sprint(order, all, impl.Cycle(us), impl.Failing(us, names[number:number+1]), plan, impl.ApplyActs(names[30:], plan))
	}
	wants := []string{}
	for number := range 8 {
		wants = append(wants, answers(number))
	}
	for _, procs := range []int{1, 2, 8} {
		was := runtime.GOMAXPROCS(procs)
		var joined sync.WaitGroup
		for number := range 8 {
			joined.Go(func() {
				for range 20 {
					if got := answers(number); got != wants[number] {
						t.Errorf("%d: another answer: %.300q", procs, got)
					}
				}
			})
		}
		joined.Wait()
		runtime.GOMAXPROCS(was)
	}
	for range 1000 {
		if runtime.NumGoroutine() <= before {
			return
		}
		time.Sleep(time.Millisecond)
	}
	t.Errorf("%d goroutines, not %d", runtime.NumGoroutine(), before)
}

func TestServicesAreNewMemory(t *testing.T) {
	// Go keeps texts of one byte in a place of its own, so these are longer.
	rows := []string{
		"data <net.1 =old; log.1 *; net.1 =one; web.1 !data <log.1 =first",
		"data =newer; log.1 !net.1; mail <data !gone; net.1 =two *; ring <rong; rong <ring; web.2 !data",
		"ring <rang; rang !ring", "rang !ring; ring <rang", "",
	}
	given, stays, lists := []any{}, []func() bool{}, [][]impl.Unit{}
	for _, row := range rows {
		us, stay := roomyAll(unitsOf(row))
		lists, given, stays = append(lists, us), append(given, us), append(stays, stay)
	}
	running, runningStays := roomyAll([]string{"web.1", "data", "data", "other", "ring", "mail"})
	acts, actsStay := roomyAll([]impl.Act{{Kind: 1, Name: strings.Clone("data")}, {Kind: 2, Name: strings.Clone("more")}, {Kind: 9, Name: strings.Clone("web.1")}})
	given, stays = append(given, running, acts), append(stays, runningStays, actsStay)
	answers, befores := []any{}, []string{}
	see := func(answer any) {
		if !isNew(answer, given...) {
			t.Errorf("%v is not new", answer)
		}
		answers = append(answers, answer)
		befores = append(befores, fmt.Sprint(answer))
	}
	for range 2 {
		for _, us := range lists {
			impl.UnitsOk(us)
			order, _ := impl.StartOrder(us)
			see(order)
			see(impl.Cycle(us))
			see(impl.Failing(us, running))
			see(impl.Failing(us, nil))
			for _, other := range lists {
				see(impl.PlanUnits(us, other, running))
				see(impl.PlanUnits(other, us, running[:2]))
			}
		}
		see(impl.ApplyActs(running, acts))
		see(impl.ApplyActs(running, nil))
		see(impl.ApplyActs(nil, acts))
	}
	for i, stay := range stays {
		if !stay() {
			t.Error("an argument was changed:", i)
		}
	}
	for i, answer := range answers {
		if fmt.Sprint(answer) != befores[i] {
			t.Errorf("a later call changed %s to %v", befores[i], answer)
		}
		if !isNew(answer, append(slices.Clone(answers[:i]), answers[i+1:]...)...) {
			t.Errorf("%s shares memory with a later answer", befores[i])
		}
	}
}

// What is written into an argument behind a call is not seen in its answer.
func TestServicesDoNotHangOnWhatWasGiven(t *testing.T) {
	us, new := unitsOf("aa <bb =x; bb; cc !none; dd <ee; ee <dd; gone"), unitsOf("aa =y; bb; ff")
	running, acts := []string{"aa", "gone"}, []impl.Act{{Kind: 2, Name: "zz"}}
	order, _ := impl.StartOrder(us)
	ring, failing, plan, runs := impl.Cycle(us), impl.Failing(us, running), impl.PlanUnits(us, new, running), impl.ApplyActs(running, acts)
	running[0], running[1], acts[0] = "?", "?", impl.Act{}
	for _, list := range [][]impl.Unit{us, new} {
		for i := range list {
			for k := range list[i].After {
				list[i].After[k] = "?"
			}
			list[i] = impl.Unit{}
		}
	}
	if got := fmt.Sprintf("%v %v %v %s %v", order, ring, failing, actsText(plan), runs); got != "[bb aa gone] [dd ee] [aa cc gone] -gone ~aa +bb +ff [aa gone zz]" {
		t.Error(got)
	}
}
