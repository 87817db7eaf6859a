package tests

import (
	"fmt"
	"math/rand"
	"slices"
	"strings"
	"testing"
	"time"

	"loop.example/g00023/impl"
)

// unitsOf makes "web <log,net !db =run *; db" two units: web starts after log and net, needs db, has an Exec and is kept.
func unitsOf(row string) []impl.Unit {
	us := []impl.Unit{}
	for _, line := range strings.Split(row, ";") {
		fields := strings.Fields(line)
		if len(fields) == 0 {
			continue
		}
		u := impl.Unit{Name: fields[0]}
		for _, field := range fields[1:] {
			switch names := strings.Split(field[1:], ","); field[0] {
			case '<':
				u.After = append(u.After, names...)
			case '!':
				u.Needs = append(u.Needs, names...)
			case '=':
				u.Exec = field[1:]
			case '*':
				u.Keep = true
			default:
				panic("no field of a unit: " + field)
			}
		}
		us = append(us, u)
	}
	return us
}

func TestUnitsOfTheseTests(t *testing.T) {
	got := unitsOf("web <log,net !db =run *; db; x !a !b")
	want := []impl.Unit{{Name: "web", After: []string{"log", "net"}, Needs: []string{"db"}, Exec: "run", Keep: true}, {Name: "db"}, {Name: "x", Needs: []string{"a", "b"}}}
	if !same(got, want) || len(unitsOf("")) != 0 {
		t.Errorf("%+v", got)
	}
}

// unitsCan holds an answer against plain words and against what is said here; of what can't be nothing comes.
func unitsCan(t *testing.T, what string, us []impl.Unit, want bool) {
	t.Helper()
	if plain := plainUnitsOk(us); plain != want {
		t.Errorf("%s: plain words: %v", what, plain)
	}
	if got := impl.UnitsOk(us); got != want {
		t.Errorf("%s: %v", what, got)
	}
	order, all := impl.StartOrder(us)
	if want {
		wanted, whole := plainStartOrder(us)
		if !same(order, wanted) || all != whole {
			t.Errorf("%s: the order %q, %v, not %q, %v", what, order, all, wanted, whole)
		}
		return
	}
	others, runs := unitsOf("a !none; b; u"), append(unitNamesOf(us), "b")
	for each, got := range map[string]int{
		"the order": len(order), "a circle": len(impl.Cycle(us)), "failing": len(impl.Failing(us, runs)), "a plan": len(impl.PlanUnits(us, us, runs)),
		"a plan from it": len(impl.PlanUnits(us, others, runs)), "a plan to it": len(impl.PlanUnits(others, us, runs)),
	} {
		if all || got > 0 {
			t.Errorf("%s: of what can't be there is %s", what, each)
		}
	}
}

// oneUnit is a list of one unit, after a change.
func oneUnit(change func(u *impl.Unit)) []impl.Unit {
	u := impl.Unit{Name: "u", After: []string{"a", "b"}, Needs: []string{"c"}, Exec: "run", Keep: true}
	change(&u)
	return []impl.Unit{u}
}

func TestUnitsOk(t *testing.T) {
	unitsCan(t, "none", nil, true)
	unitsCan(t, "the least", unitsOf("u"), true)
	unitsCan(t, "one", oneUnit(func(*impl.Unit) {}), true)
	unitsCan(t, "the zero value", []impl.Unit{{}}, false)
	unitsCan(t, "the zero value behind", []impl.Unit{{Name: "a"}, {}}, false)
	for row, want := range map[string]bool{
		"a; b": true, "b; a": false, "a; a": false, "a; b; b": false, "a; c; b": false, "a; b; c": true, "a; a =x": false,
		"B; a; b": true, "a; B": false, "a; a-; a.b; ab": true, "a; ab; a.b": false, "+; -; _": true, "a; .b": false, "a/b": false, "a; b:c": false,
		"a <a": true, "a !a": true, "a <a !a": true, "a <b": true, "a !b": true, "a <b; b !a": true, "a <none !none": true,
		"a <b,c": true, "a <c,b": false, "a <b,b": false, "a <b,d,c": false, "a <b,c,c": false, "a <B,b": true, "a <b,B": false,
		"a !b,c": true, "a !c,b": false, "a !b,b": false, "a !b,d,c": false, "a !b,c,c": false, "a !B,b": true, "a !b,B": false,
		"a <b !b": true, "a <c !b": true, "a; b <.a": false, "a; b !.a": false, "a; b <a,a/b": false, "a; b !a,a/b": false,
		"a *": true, "a =x": true, "a =x *": true,
	} {
		unitsCan(t, row, unitsOf(row), want)
	}
}

func TestNamesOfUnits(t *testing.T) {
	long := strings.Repeat("n", 60)
	names := map[string]bool{
		"a": true, "a.b": true, "a..b": true, "a.": true, "-": true, "0": true, long: true, long[1:]: true, long + "n": false, strings.Repeat("n", 500): false,
		"": false, ".a": false, ".": false, "a b": false, " a": false, "a ": false, "a/b": false, "é": false, "a\n": false, "\x00": false, "a|b": false, "a\xff": false,
	}
	for _, b := range allBytes() {
		names[string([]byte{b})] = plainNames60.MatchString(string([]byte{b}))
		names["q"+string([]byte{b})] = plainNames60.MatchString("q" + string([]byte{b}))
	}
	for name, want := range names {
		unitsCan(t, fmt.Sprintf("the unit %q", name), oneUnit(func(u *impl.Unit) { u.Name = name }), want)
		unitsCan(t, fmt.Sprintf("the After %q", name), oneUnit(func(u *impl.Unit) { u.After = []string{name} }), want)
		unitsCan(t, fmt.Sprintf("the Need %q", name), oneUnit(func(u *impl.Unit) { u.Needs = []string{name} }), want)
	}
}

func manyUnits(n int) []impl.Unit {
	us := []impl.Unit{}
	for _, name := range manyNames(n) {
		us = append(us, impl.Unit{Name: name})
	}
	return us
}

func TestLimitsOfUnits(t *testing.T) {
	for n, want := range map[int]bool{0: true, 19: true, 20: true, 21: false, 100: false} {
		many := manyNames(n)
		unitsCan(t, fmt.Sprint(n, " of After"), oneUnit(func(u *impl.Unit) { u.After = many }), want)
		unitsCan(t, fmt.Sprint(n, " of Needs"), oneUnit(func(u *impl.Unit) { u.Needs = many }), want)
		unitsCan(t, fmt.Sprint(n, " of each"), oneUnit(func(u *impl.Unit) { u.After, u.Needs = many, many }), want)
		unitsCan(t, fmt.Sprint(n, " of each in the last one"), append(unitsOf("a"), impl.Unit{Name: "u", After: many, Needs: many}), want)
	}
	text := strings.Repeat("\x00\xff\n ", 1000)
	for _, r := range []struct {
		exec string
		want bool
	}{{"", true}, {"\n", true}, {text[1:], true}, {text, true}, {text + "x", false}, {text + text, false}, {strings.Repeat("é", 2000), true}, {strings.Repeat("é", 2001), false}} {
		unitsCan(t, fmt.Sprint(len(r.exec), " bytes of Exec"), oneUnit(func(u *impl.Unit) { u.Exec = r.exec }), r.want)
		unitsCan(t, fmt.Sprint(len(r.exec), " bytes of Exec, not kept"), append(unitsOf("a"), impl.Unit{Name: "b", Exec: r.exec}), r.want)
	}
	for n, want := range map[int]bool{0: true, 1: true, 99: true, 100: true, 101: false, 3000: false} {
		unitsCan(t, fmt.Sprint(n, " units"), manyUnits(n), want)
	}
	if impl.MaxDeps != 20 || impl.MaxFiles != 100 || impl.MaxText != 4000 || impl.MaxMany != 2000 {
		t.Error("other limits")
	}
}

// ordersAre are rows: units, and the order, with a ! at its end when some never can.
func ordersAre(t *testing.T, rows [][2]string) {
	t.Helper()
	for _, r := range rows {
		us := unitsOf(r[0])
		want := strings.Fields(strings.TrimSuffix(r[1], "!"))
		whole := !strings.HasSuffix(r[1], "!")
		if plain, all := plainStartOrder(us); !same(plain, want) || all != whole {
			t.Errorf("%q: plain words: %q, %v, not %q", r[0], plain, all, r[1])
		}
		if got, all := impl.StartOrder(us); !same(got, want) || all != whole {
			t.Errorf("%q: %q, %v, not %q", r[0], got, all, r[1])
		}
	}
}

func TestStartOrder(t *testing.T) {
	ordersAre(t, [][2]string{
		{"", ""}, {"a", "a"}, {"a; b; c", "a b c"}, {"a; b <a", "a b"}, {"a; b !a", "a b"}, {"a <b; b", "b a"}, {"a !b; b", "b a"}, {"a <b !b; b", "b a"},
		{"db <net; net; web !db; x !gone", "net db web!"},
		{"a <b; b <c; c <d; d", "d c b a"}, {"a !b; b <c; c !d; d", "d c b a"}, {"a; b <a; c <b; d <c", "a b c d"},
		// Of several that are ready the first, also of those that have become so just now.
		{"a <c; b; c; d", "b c a d"}, {"a <d; b; c; d", "b c d a"}, {"a <c; b <c; c; d", "c a b d"}, {"a <d; b <c; c; d", "c b d a"}, {"a <d; b <d; c; d; e", "c d a b e"},
		{"a <b,c; b <d; c; d", "c d b a"}, {"B; a; b <B", "B a b"}, {"a <z; m; z", "m z a"}, {"a; a-; a.b <ab; ab", "a a- ab a.b"},
		// What is not there is waited for by Needs alone.
		{"a <none", "a"}, {"a !none", "!"}, {"a <none !none", "!"}, {"a <none; b <a,none", "a b"}, {"a !none; b", "b!"}, {"a !none,zone; b !none", "!"},
		{"a !none; b <a; c !b; d", "d!"}, {"a !b,none; b", "b!"}, {"a <b !none; b", "b!"}, {"a <b,none !b; b", "b a"}, {"a !A", "!"}, {"a !aa; aa. ", "aa.!"},
		// Circles never can, nor what is behind them; what they wait for can.
		{"a <a", "!"}, {"a !a", "!"}, {"a <a !a", "!"}, {"a <a; b", "b!"}, {"a <b; b <a", "!"}, {"a !b; b <a; c", "c!"}, {"a !b; b !c; c !a; d <a; e; f !d", "e!"},
		{"a <b,c; b <a; c", "c!"}, {"a <b; b <b; c", "c!"}, {"a; b <a,b; c <a", "a c!"}, {"a; b <c; c <b; d <a", "a d!"},
	})
}

func TestOrdersOfManyUnits(t *testing.T) {
	names := manyNames(100)
	up, down, star, wide, ring := manyUnits(100), manyUnits(100), manyUnits(100), manyUnits(100), manyUnits(100)
	for i := range 100 {
		if i > 0 {
			down[i].After = names[i-1 : i]
		}
		if i < 99 {
			up[i].Needs = names[i+1 : i+2]
			star[i].Needs = names[99:]
		}
		wide[i].After, wide[i].Needs = names[max(0, i-20):i], names[max(0, i-30):max(0, i-10)]
		ring[i].After = []string{names[(i+1)%100]}
	}
	turned := slices.Clone(names)
	slices.Reverse(turned)
	for what, r := range map[string]struct {
		us    []impl.Unit
		order []string
		all   bool
	}{
		"up": {up, turned, true}, "down": {down, names, true}, "a star": {star, append([]string{names[99]}, names[:99]...), true}, "wide": {wide, names, true}, "a ring": {ring, nil, false},
		"free": {manyUnits(100), names, true}, "too many": {manyUnits(101), nil, false},
	} {
		began := time.Now()
		if got, all := impl.StartOrder(r.us); !same(got, r.order) || all != r.all {
			t.Errorf("%s: %q, %v", what, got, all)
		}
		if took := time.Since(began); took > 5*time.Second {
			t.Error(what, "took", took)
		}
	}
	// Every twenty after the first one are ready at once, and ahead of those that were.
	fans := manyUnits(100)
	for i := range 80 {
		fans[i].After = []string{names[80+i/4]}
	}
	want := []string{}
	for i := range 20 {
		want = append(append(want, names[80+i]), names[4*i:4*i+4]...)
	}
	if got, all := impl.StartOrder(fans); !all || !same(got, want) {
		t.Errorf("%q", got)
	}
}

// cyclesAre are rows: units, and the circle.
func cyclesAre(t *testing.T, rows [][2]string) {
	t.Helper()
	for _, r := range rows {
		us, want := unitsOf(r[0]), strings.Fields(r[1])
		if plain := plainCycle(us); !same(plain, want) {
			t.Errorf("%q: plain words: %q, not %q", r[0], plain, want)
		}
		if got := impl.Cycle(us); !same(got, want) {
			t.Errorf("%q: %q, not %q", r[0], got, want)
		}
	}
}

func TestCycle(t *testing.T) {
	cyclesAre(t, [][2]string{
		{"", ""}, {"a", ""}, {"a; b <a; c !b,a", ""}, {"a <none !none", ""}, {"a !none; b !a", ""}, {"a <b,c,d; b <c,d; c <d; d", ""},
		{"a <a", "a"}, {"a !a", "a"}, {"a <a !a", "a"}, {"a; b !b", "b"}, {"a <b; b <b", "b"},
		{"a <b; b <a", "a b"}, {"a !b; b <a", "a b"}, {"a !b; b !a", "a b"}, {"a; b <c; c <b", "b c"}, {"a <c; b; c <a", "a c"},
		{"a <b; b <c; c <a", "a b c"}, {"a <c; b <a; c <b", "a c b"}, {"a !c; b <a; c !b", "a c b"}, {"a <b; b <c; c <d; d <b", "b c d"}, {"a <c; b <a; c <d; d <b", "a c d b"},
		// The shortest, whatever its names.
		{"a <b; b <c; c !a; d <e; e <d", "d e"}, {"a <b; b <a; c <c", "c"}, {"a <b; b <c; c <a,d; d <c", "c d"}, {"a <b; b <a,c; c <b", "a b"}, {"a <b; b <c; c <a; z <z", "z"},
		{"a <b; b <c; c <d; d <e; e <a,c", "c d e"}, {"a <b; b <c; c <d; d <a,b,c", "c d"}, {"a <b; b <c; c <d; d <a,b", "b c d"}, {"a <b; b <c; c <d; d <a", "a b c d"},
		// Of the same length the lesser.
		{"a <a; b <b", "a"}, {"a; b <b; c <c", "b"}, {"a <d; b <c; c <b; d <a", "a d"}, {"a <c; b <c; c <a,b", "a c"}, {"a <b,c; b <a; c <a", "a b"}, {"a <c; b; c <a,d; d <c", "a c"},
		{"a <b,c; b <d; c <d; d <a", "a b d"}, {"a <c,d; b; c <e; d <e; e <a", "a c e"}, {"a <b,c; b <c; c <a,b", "a c"}, {"a <b,c; b <d,e; c <d; d <a; e <a", "a b d"},
		{"a <c; b <d; c <e; d <f; e <a; f <b", "a c e"}, {"a <b,c; b <c; c <b", "b c"}, {"a <b; b <c; c <d; d <b; e <f; f <g; g <e", "b c d"},
		{"a <d; b <a; c <b; d <c,e; e <f; f <d", "d e f"}, {"a <b,f; b <c; c <a; d; e <a; f <e", "a b c"}, {"a <b; b <f; c <a; d <a; e; f <c,d", "a b f c"},
		// Both lists lead on.
		{"a <c !b; b !a; c <a", "a b"}, {"a <b !c; b !a; c <a", "a b"}, {"a <none !c; b !none; c <b !a", "a c"}, {"a <b !b; b <a !a", "a b"},
	})
}

// Rings of any length, alone, with a way across, and two of them side by side.
func TestCyclesOfManyUnits(t *testing.T) {
	names := manyNames(100)
	for size := 1; size <= 100; size++ {
		us := manyUnits(100)
		for i := range size {
			us[i].After = []string{names[(i+1)%size]}
		}
		if got := impl.Cycle(us); !same(got, names[:size]) {
			t.Fatalf("a ring of %d: %q", size, got)
		}
		for i := range size {
			us[i].After = []string{names[(i+size-1)%size]}
		}
		want := append([]string{names[0]}, slices.Clone(names[1:size])...)
		slices.Reverse(want[1:])
		if got := impl.Cycle(us); !same(got, want) {
			t.Fatalf("a ring of %d, against: %q", size, got)
		}
	}
	for from := range 100 {
		us := manyUnits(100)
		for i := range us {
			us[i].Needs = []string{names[(i+1)%100]}
		}
		us[99].After = []string{names[from]}
		if got := impl.Cycle(us); !same(got, names[from:]) {
			t.Fatalf("a way across to %d: %q", from, got)
		}
	}
	for size := 1; size <= 50; size++ {
		us := manyUnits(100)
		for i := range size {
			us[i].After, us[50+i].After = []string{names[(i+1)%size]}, []string{names[50+(i+1)%size]}
		}
		if got := impl.Cycle(us); !same(got, names[:size]) {
			t.Fatalf("two rings of %d: %q", size, got)
		}
		if us[0].After = nil; !same(impl.Cycle(us), names[50:50+size]) {
			t.Fatalf("a ring of %d, and a broken one: %q", size, impl.Cycle(us))
		}
	}
}

// Each unit waits for as many as can be, and still none leads back.
func TestCyclesOfTheGreatestSystems(t *testing.T) {
	names := manyNames(100)
	us := manyUnits(100)
	for i := range us {
		us[i].After, us[i].Needs = names[max(0, i-20):i], names[max(0, i-40):max(0, i-20)]
	}
	began := time.Now()
	if got := impl.Cycle(us); len(got) != 0 {
		t.Error(got)
	}
	us[0].After = names[99:]
	if got := impl.Cycle(us); !same(got, []string{names[0], names[99], names[59], names[19]}) {
		t.Error(got)
	}
	for i := range us {
		us[i].After, us[i].Needs = names[80:], names[:20]
	}
	if got := impl.Cycle(us); !same(got, names[:1]) {
		t.Error(got)
	}
	if took := time.Since(began); took > 10*time.Second {
		t.Error("it took", took)
	}
}

// failingIs: units, those that are broken, and what fails.
func failingIs(t *testing.T, us []impl.Unit, broken []string, want []string) {
	t.Helper()
	if plain := plainFailing(us, broken); !same(plain, want) {
		t.Errorf("%.200q, broken %.200q: plain words: %q, not %q", fmt.Sprint(us), broken, plain, want)
	}
	if got := impl.Failing(us, broken); !same(got, want) {
		t.Errorf("%.200q, broken %.200q: %q, not %q", fmt.Sprint(us), broken, got, want)
	}
}

func TestFailing(t *testing.T) {
	const row = "a; b !a; c !b; d <a; e !d; f !a,d; g <f"
	for _, r := range [][3]string{
		{row, "", ""}, {row, "a", "a b c f"}, {row, "b", "b c"}, {row, "c", "c"}, {row, "d", "d e f"}, {row, "e", "e"}, {row, "f", "f"}, {row, "g", "g"},
		{row, "a d", "a b c d e f"}, {row, "d a", "a b c d e f"}, {row, "c b", "b c"}, {row, "g e", "e g"}, {row, "none", ""}, {row, "none a zone", "a b c f"}, {row, "d d d", "d e f"}, {row, "A aa a.", ""},
		// Who needs what is not there fails anyway, and who needs that one.
		{"x !none", "", "x"}, {"x !none", "none", "x"}, {"x <none", "", ""}, {"x <none", "none", ""}, {"x !none; y !x; z <x", "", "x y"}, {"w; x !none,w; y", "w", "w x"}, {"a; x !none; y", "a", "a x"},
		{"db <net; net; web !db; x !gone", "db", "db web x"},
		// Who waits in a circle fails only with something that is broken or not there.
		{"a !b; b !a", "", ""}, {"a !b; b !a", "a", "a b"}, {"a !b; b !a", "b", "a b"}, {"a !a", "", ""}, {"a !a", "a", "a"}, {"a <b; b <a", "a", "a"}, {"a !b; b <a", "a", "a"}, {"a !b; b <a", "b", "a b"},
		{"a !b; b !c; c !a; d !a; e", "", ""}, {"a !b; b !c; c !a; d !a; e", "c", "a b c d"}, {"a !b; b !c,none; c !a; d !a; e", "", "a b c d"}, {"a !b; b !c,none; c !a; d !a; e", "e", "a b c d e"},
		{"a; a-; a.b !ab; ab", "ab", "a.b ab"}, {"B; a !B; b !a", "B", "B a b"}, {"a !b; b !c; c !d; d", "d", "a b c d"}, {"a <b !b; b", "b", "a b"},
		{"", "", ""}, {"", "a", ""},
	} {
		failingIs(t, unitsOf(r[0]), strings.Fields(r[1]), strings.Fields(r[2]))
	}
	failingIs(t, unitsOf("a; b !a"), []string{"", " a", "a ", "a\x00", "\xff", "."}, nil)
	failingIs(t, unitsOf("a; b !a"), []string{"", " a", "a", "\xff"}, []string{"a", "b"})
}

func TestFailingOfMany(t *testing.T) {
	us := unitsOf("a; b !a; c")
	broken := slices.Repeat([]string{"x"}, 2001)
	broken[1999] = "a"
	failingIs(t, us, broken[:2000], []string{"a", "b"})
	failingIs(t, us, broken[1:], []string{"a", "b"})
	failingIs(t, us, broken, nil)
	failingIs(t, us, slices.Repeat([]string{"c"}, 2000), []string{"c"})
	failingIs(t, us, slices.Repeat([]string{"c"}, 2001), nil)
	failingIs(t, unitsOf("a !none"), slices.Repeat([]string{"c"}, 2001), nil)
	names, row, ring := manyNames(100), manyUnits(100), manyUnits(100)
	for i := range 99 {
		row[i].Needs = names[i+1 : i+2]
	}
	for i := range ring {
		for k := range 20 {
			ring[i].Needs = append(ring[i].Needs, names[(i+1+k)%100])
		}
		slices.Sort(ring[i].Needs)
	}
	for i := range 100 {
		failingIs(t, row, names[i:i+1], names[:i+1])
		failingIs(t, ring, names[i:i+1], names)
	}
	failingIs(t, ring, nil, nil)
	failingIs(t, ring, slices.Repeat(names, 20), names)
	failingIs(t, row, slices.Repeat(names, 20), names)
	failingIs(t, manyUnits(101), names, nil)
}

// unitsHold holds orders and circles against plain words, and the promises against the answers.
func unitsHold(t *testing.T, us []impl.Unit) ([]string, []string) {
	t.Helper()
	order, all := impl.StartOrder(us)
	if want, whole := plainStartOrder(us); !same(order, want) || all != whole {
		t.Fatalf("%+v: %q, %v, not %q, %v", us, order, all, want, whole)
	}
	ring := impl.Cycle(us)
	if want := plainCycle(us); !same(ring, want) {
		t.Fatalf("%+v: %q, not %q", us, ring, want)
	}
	if impl.UnitsOk(us) {
		orderHolds(t, us, order, all)
		ringHolds(t, us, ring, order)
	}
	return order, ring
}

func orderHolds(t *testing.T, us []impl.Unit, order []string, all bool) {
	t.Helper()
	for number, name := range order {
		if slices.Contains(order[:number], name) || !hasAll(order[:number], plainWaits(us, us[plainUnitAt(us, name)])) {
			t.Fatalf("%+v: %q stands ahead of what it waits for: %q", us, name, order)
		}
	}
	for _, u := range us {
		if !slices.Contains(order, u.Name) && hasAll(order, plainWaits(us, u)) {
			t.Fatalf("%+v: %q is not in %q", us, u.Name, order)
		}
	}
	if all != (len(order) == len(us)) {
		t.Fatalf("%+v: %q, %v", us, order, all)
	}
}

func ringHolds(t *testing.T, us []impl.Unit, ring []string, order []string) {
	t.Helper()
	for number, name := range ring {
		next := ring[(number+1)%len(ring)]
		if !slices.Contains(plainWaits(us, us[plainUnitAt(us, name)]), next) || name < ring[0] || slices.Contains(ring[:number], name) || slices.Contains(order, name) {
			t.Fatalf("%+v: %q is no circle, or does not begin with the least", us, ring)
		}
	}
	lacks := slices.ContainsFunc(us, func(u impl.Unit) bool { return !hasAll(unitNamesOf(us), u.Needs) })
	if len(ring) == 0 && len(order) < len(us) && !lacks {
		t.Fatalf("%+v: neither all can, nor a circle is named", us)
	}
}

// failingHolds holds what fails against plain words; one more that is broken never makes it fewer.
func failingHolds(t *testing.T, us []impl.Unit, broken []string, more string) []string {
	t.Helper()
	failing := impl.Failing(us, broken)
	if want := plainFailing(us, broken); !same(failing, want) {
		t.Fatalf("%+v, broken %q: %q, not %q", us, broken, failing, want)
	}
	if !plainRises(failing) {
		t.Fatalf("%+v, broken %q: %q", us, broken, failing)
	}
	if grown := impl.Failing(us, append(slices.Clone(broken), more)); !hasAll(grown, failing) {
		t.Fatalf("%+v, broken %q and %q: %q, not all of %q", us, broken, more, grown, failing)
	}
	return failing
}

// wiredUnits are a, b and so on; each digit of the number says what one is to another: nothing, After, Needs, or both.
func wiredUnits(count int, states int, number int) []impl.Unit {
	us := []impl.Unit{}
	for i := range count {
		u := impl.Unit{Name: string(rune('a' + i))}
		for k := range count {
			state, name := number%states, string(rune('a'+k))
			if number /= states; state%2 == 1 {
				u.After = append(u.After, name)
			}
			if state >= 2 {
				u.Needs = append(u.Needs, name)
			}
		}
		us = append(us, u)
	}
	return us
}

// Three units with every choice of what each is to each, one of them perhaps with a Need that is not there.
func TestEveryThreeUnits(t *testing.T) {
	rings, orders := map[int]int{}, map[int]int{}
	for number := range 3 * 3 * 3 * 3 * 3 * 3 * 3 * 3 * 3 {
		for lacks := range 4 {
			us := wiredUnits(3, 3, number)
			if lacks < 3 {
				us[lacks].Needs = append(us[lacks].Needs, "none")
			}
			order, ring := unitsHold(t, us)
			orders[len(order)]++
			rings[len(ring)]++
			broken := []string{}
			for i, name := range []string{"a", "b", "c"} {
				if (number+lacks)>>i&1 == 1 {
					broken = append(broken, name)
				}
			}
			failingHolds(t, us, broken, string(rune('a'+number%3)))
		}
	}
	for size := range 4 {
		if orders[size] < 60 || rings[size] < 60 {
			t.Error(orders, rings)
		}
	}
}

// Four units with every choice of who waits for whom.
func TestEveryFourUnits(t *testing.T) {
	rings := map[int]int{}
	for number := range 1 << 16 {
		_, ring := unitsHold(t, wiredUnits(4, 2, number))
		rings[len(ring)]++
	}
	if rings[0] != 543 || rings[1] != 15*4096 || rings[2]+rings[3]+rings[4] != 4096-543 || rings[4] < 6 || rings[3] < 8 {
		t.Error(rings)
	}
}

type unitMaker struct{ *rand.Rand }

func (m unitMaker) one(texts ...string) string { return texts[m.Intn(len(texts))] }

// some are those of texts that come up, one of so many.
func (m unitMaker) some(oneOf int, texts ...string) []string {
	return slices.DeleteFunc(slices.Clone(texts), func(string) bool { return m.Intn(oneOf) > 0 })
}

var chanceUnits = []string{"a", "a.b", "aa", "b", "c", "d", "e", "none", "z"}

func (m unitMaker) units() []impl.Unit {
	us := []impl.Unit{}
	sparse := 3 + m.Intn(10)
	for _, name := range m.some(1+m.Intn(3), chanceUnits[:7]...) {
		us = append(us, impl.Unit{
			Name: name, After: m.some(sparse, chanceUnits...), Needs: m.some(2*sparse, chanceUnits[:7+m.Intn(3)]...),
			Exec: m.one("", "x", "y"), Keep: m.Intn(4) == 0,
		})
	}
	return us
}

func (m unitMaker) spoil(us []impl.Unit) {
	if len(us) == 0 {
		return
	}
	at := &us[m.Intn(len(us))]
	switch m.Intn(5) {
	case 0:
		at.Name = m.one("", ".a", "a", "zz", "a b")
	case 1:
		at.After = append(at.After, m.one("a", "", "zz", "zz."))
	case 2:
		at.Needs = append(at.Needs, m.one("a", "", "zz", "zz/"))
	case 3:
		at.Exec = strings.Repeat("x", 4000+m.Intn(2))
	case 4:
		at.After = manyNames(20 + m.Intn(2))
	}
}

func TestUnitsByChance(t *testing.T) {
	m := unitMaker{rand.New(rand.NewSource(181))}
	outcomes := map[string]int{}
	for range 20000 {
		us := m.units()
		if m.Intn(30) == 0 {
			m.spoil(us)
		}
		if impl.UnitsOk(us) != plainUnitsOk(us) {
			t.Fatalf("%+v", us)
		}
		order, ring := unitsHold(t, us)
		failing := failingHolds(t, us, m.some(4, chanceUnits...), m.one(chanceUnits...))
		outcomes[fmt.Sprint("ring ", len(ring))]++
		outcomes[fmt.Sprint("order ", len(order), " ", len(us))]++
		outcomes[fmt.Sprint("failing ", len(failing))]++
		if !impl.UnitsOk(us) {
			outcomes["can't be"]++
		}
	}
	for _, kind := range []string{"can't be", "ring 0", "ring 1", "ring 2", "ring 3", "order 7 7", "order 0 7", "order 3 7", "failing 0", "failing 4", "failing 7"} {
		if outcomes[kind] < 80 {
			t.Error(kind, outcomes)
		}
	}
}

// As many units as can be, each of which waits for one or two others, so that there is a circle.
func TestManyUnitsByChance(t *testing.T) {
	m := unitMaker{rand.New(rand.NewSource(182))}
	names := manyNames(100)
	rings := map[int]int{}
	for range 100 {
		us := manyUnits(100)
		for i := range us {
			us[i].After = names[m.Intn(100):][:1]
			if m.Intn(8) == 0 {
				us[i].Needs = names[m.Intn(100):][:1]
			}
		}
		_, ring := unitsHold(t, us)
		rings[len(ring)]++
		failingHolds(t, us, []string{m.one(names...), m.one(names...)}, m.one(names...))
	}
	if len(rings) < 4 || rings[0] > 0 {
		t.Error(rings)
	}
}
