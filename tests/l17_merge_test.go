package tests

import (
	"fmt"
	"maps"
	"math/rand"
	"runtime"
	"slices"
	"strings"
	"sync"
	"testing"
	"time"

	"loop.example/g00023/impl"
)

// configText tells settings as "a=true@7; b=x y@0", and faults as "! missing a; twice b".
func configText(c impl.Config) string {
	rows := []string{}
	for _, s := range c.Settings {
		rows = append(rows, fmt.Sprintf("%s=%s@%d", s.Name, s.Value, s.Rank))
	}
	text := strings.Join(rows, "; ")
	if len(c.Faults) > 0 {
		text += "! " + strings.Join(c.Faults, "; ")
	}
	return text
}

func mergeIs(t *testing.T, ms []impl.Module, start []string, want string) {
	t.Helper()
	if plain := configText(plainMerge(ms, start)); plain != want {
		t.Errorf("%.300q from %.100q: plain words: %.300q, not %.300q", fmt.Sprint(ms), start, plain, want)
	}
	if got := configText(impl.Merge(ms, start)); got != want {
		t.Errorf("%.300q from %.100q: %.300q, not %.300q", fmt.Sprint(ms), start, got, want)
	}
}

// mergesAre are rows: modules, and what all of them together give; the names of start are those of all modules.
func mergesAre(t *testing.T, rows [][2]string) {
	t.Helper()
	for _, r := range rows {
		ms := modulesOf(r[0])
		if !plainModulesOk(ms) {
			t.Errorf("%q can't be", r[0])
		}
		mergeIs(t, ms, moduleNames(ms), r[1])
	}
}

func moduleNames(ms []impl.Module) []string {
	names := []string{}
	for _, m := range ms {
		names = append(names, m.Name)
	}
	return names
}

func TestMerge(t *testing.T) {
	const base = "[base] net.on bool = false; users list =; mode fast|safe = safe; port int; port := 80 @1000; users := ann @100"
	const web = "[web < base] net.on := true @100; users := web log @100; port := 8080 @100 ? net.on"
	for _, r := range [][3]string{
		{base + web, "web", "mode=safe@0; net.on=true@100; port=8080@100; users=ann web log@100"},
		{base + web, "base", "mode=safe@0; net.on=false@0; port=80@1000; users=ann@100"},
		{base + web, "base web base", "mode=safe@0; net.on=true@100; port=8080@100; users=ann web log@100"},
		{base + web, "", ""},
		{base + web + "; port := 9 @100; mode := slow @1; zz := @1", "web none", "! missing none; unknown zz; value mode"},
		{base + web + "; port := 9 @100", "web", "! conflict port"},
		{base + web + "; port := 9 @99", "web", "mode=safe@0; net.on=true@100; port=9@99; users=ann web log@100"},
		{base + web + "; net.on := false @99", "web", "mode=safe@0; net.on=false@99; port=80@1000; users=ann web log@100"},
		{base + web + "; users := @1", "web", "mode=safe@0; net.on=true@100; port=8080@100; users=@1"},
		{"[m]", "m", ""},
		{"[m]", "", ""},
		{"", "", ""},
		{"", "m", "! missing m"},
		{"[m] b text = ; a text = ; c.d text = ; c-d text = ; c text = ; B text =", "m", "B=@0; a=@0; b=@0; c=@0; c-d=@0; c.d=@0"},
	} {
		mergeIs(t, modulesOf(r[0]), strings.Fields(r[1]), r[2])
	}
}

func TestMergeOfWhatCanNotBe(t *testing.T) {
	for _, row := range []string{
		"[b] [a]", "[a] [a]", "[a] x bool = yes", "[a] x int needs y", "[a] x := 1 @0", "[a] x := 1 @1001", "[a] x := 1 @1 ? .y", "[a] x. bool", "[a] x.. := 1 @1", "[a < c b]", "[a] [b] x thing", "[a < b b]",
	} {
		ms := modulesOf(row)
		mergeIs(t, ms, []string{"a"}, "")
		mergeIs(t, ms, []string{"a", "none"}, "")
		mergeIs(t, ms, nil, "")
	}
	mergeIs(t, manyModules(101), []string{"none"}, "")
	mergeIs(t, manyModules(100), []string{"none"}, "! missing none")
}

func TestMergeOfManyNames(t *testing.T) {
	ms := modulesOf("[a < b] x int = 7 [b] x := 8 @3 [c] x := 9 @1")
	start := slices.Repeat([]string{"a"}, 2001)
	mergeIs(t, ms, start[:2000], "x=8@3")
	mergeIs(t, ms, start, "")
	start[1999] = "none"
	mergeIs(t, ms, start[:2000], "! missing none")
	mergeIs(t, ms, start, "")
}

// Each fault alone.
func TestFaultsThatComeFirst(t *testing.T) {
	mergesAre(t, [][2]string{
		{"[a < b]", "! missing b"},
		{"[a < b c] [b < d] [e < a]", "! missing c; missing d"},
		{"[a < z] [b < z]", "! missing z"},
		{"[a] x bool = true [b] x bool = true", "! twice x"},
		{"[a] x bool = true; x bool = true", "! twice x"},
		{"[a] x bool = true; x int = 3; x a|b = a", "! twice x"},
		{"[a] x bool = true; y bool = true [b] y bool = true [c] x bool = true; x bool = true", "! twice x; twice y"},
		{"[a] x := true @1", "! unknown x"},
		{"[a] x := true @1; x := true @2 [b] x := 7 @3", "! unknown x"},
		{"[a] x bool = true needs y", "! unknown y"},
		{"[a] x bool = false needs y z; y bool = true", "! unknown z"},
		{"[a] x bool = true; x := false @1 ? y", "! unknown y"},
		{"[a] x := 1 @1 ? y", "! unknown x; unknown y"},
		{"[a] x := 1 @1 ? x", "! unknown x"},
		{"[a] x bool = true; x := false @1 ? y; y int = 1", "! when y"},
		{"[a] x bool = true; x := false @1 ? y; y text = true", "! when y"},
		{"[a] x bool = true; x := false @1 ? y; y list = true", "! when y"},
		{"[a] x bool = true; x := false @1 ? y; y true|false = true", "! when y"},
		{"[a] x int = 1; x := 2 @1 ? x", "! when x"},
		{"[a] y int = 1; x := 2 @1 ? y", "! unknown x; when y"},
		{"[a] x bool = true; x := yes @1", "! value x"},
		{"[a] x bool = true; x := @1", "! value x"},
		{"[a] x int = 1; x := 01 @1", "! value x"},
		{"[a] x int = 1; x := 5 @1; x := a @1000", "! value x"},
		{"[a] x list = ; x := .a @7", "! value x"},
		{"[a] x a|b = a; x := c @7", "! value x"},
		{"[a] x int = 1; on bool = false; x := a @7 ? on", "! value x"},
		{"[a] x int = 1 [b] x := a @7; x := b @8", "! value x"},
		{"[a] x bool; x := 1 @2; y int; y := true @2", "! value x; value y"},
	})
	long := strings.Repeat("x", 4001)
	ms := []impl.Module{{Name: "m", Options: []impl.Option{{Name: "t", Type: "text"}}, Defs: []impl.Def{{Option: "t", Value: long, Rank: 5}}}}
	mergeIs(t, ms, []string{"m"}, "! value t")
	ms[0].Defs[0].Value = long[:4000]
	mergeIs(t, ms, []string{"m"}, "t="+long[:4000]+"@5")
	for _, name := range []string{"", " ", "a", "m ", "x y", ".", "\xff", long} {
		mergeIs(t, modulesOf("[m]"), []string{"m", name, name}, "! missing "+name)
	}
}

// Several at once are texts that ascend, each once; what modules say that nobody imports is no fault.
func TestFaultsTogether(t *testing.T) {
	const row = "[a < z] x bool; x int; y int; x := 7 @1; y := a @1 ? y; q := 1 @1 ? r [b] p bool needs o"
	mergesAre(t, [][2]string{
		{row, "! missing z; twice x; unknown o; unknown q; unknown r; value x; value y; when y"},
		{row + "[c < b y] x text; y := 7 @1 ? y", "! missing y; missing z; twice x; unknown o; unknown q; unknown r; value x; value y; when y"},
		{"[b] x := 1 @1 [c] a := 1 @1 [d] a.b := 1 @1; a-b := 1 @1", "! unknown a; unknown a-b; unknown a.b; unknown x"},
	})
	mergeIs(t, modulesOf(row), []string{"b"}, "! unknown o")
	mergeIs(t, modulesOf(row), []string{"a"}, "! missing z; twice x; unknown q; unknown r; value x; value y; when y")
	mergeIs(t, modulesOf(row), []string{"w", "b", "v", "w"}, "! missing v; missing w; unknown o")
	mergeIs(t, modulesOf(row), nil, "")
	mergeIs(t, modulesOf(row), []string{"none"}, "! missing none")
}

// Each pair of faults of which the first keeps the second from being told.
func TestFurtherFaultsAreToldOnlyThen(t *testing.T) {
	first := map[string]string{
		"[x < none]":                                         "missing none",
		"[x] tw bool = true; tw bool = true":                 "twice tw",
		"[x] un := 1 @1":                                     "unknown un",
		"[x] ne bool = false needs un":                       "unknown un",
		"[x] on bool = true; on := true @1 ? un":             "unknown un",
		"[x] no int = 1; on bool = true; on := true @1 ? no": "when no",
		"[x] va int = 1; va := a @1":                         "value va",
	}
	further := map[string]string{
		"[f] c int; c := 1 @1; c := 2 @1":           "conflict c",
		"[f] u int":                                 "unset u",
		"[f] n bool = true needs m; m bool = false": "needs n m",
		"[f] l bool = true; l := true @1 ? l":       "loop l",
	}
	for one, fault := range first {
		mergeIs(t, modulesOf(one), []string{"x"}, "! "+fault)
		for other, behind := range further {
			mergeIs(t, modulesOf(other), []string{"f"}, "! "+behind)
			mergeIs(t, modulesOf(other+one), []string{"f", "x"}, "! "+fault)
		}
	}
}

func TestFurtherFaults(t *testing.T) {
	mergesAre(t, [][2]string{
		{"[a] x int; x := 1 @5; x := 2 @5", "! conflict x"},
		{"[a] x int; x := 1 @5 [b] x := 2 @5", "! conflict x"},
		{"[a] x int; x := 1 @5 [b] x := 2 @5; x := 3 @4", "x=3@4"},
		{"[a] x int; x := 1 @5 [b] x := 1 @5", "x=1@5"},
		{"[a] x text; x := 1 @5; x := 1 @5; x := 2 @5; x := 1 @5", "! conflict x"},
		{"[a] x text; x := a @5; x := @5", "! conflict x"},
		{"[a] x text; x := @5; x := @5", "x=@5"},
		{"[a] x bool; x := true @5; x := false @5", "! conflict x"},
		{"[a] x a|b; x := a @5; x := b @5", "! conflict x"},
		{"[a] x int = 1; x := 2 @1000", "x=2@1000"},
		{"[a] x int = 1; x := 1 @1000", "x=1@1000"},
		{"[a] x bool", "! unset x"},
		{"[a] x int", "! unset x"},
		{"[a] x text", "! unset x"},
		{"[a] x list", "! unset x"},
		{"[a] x a|b", "! unset x"},
		{"[a] x list; x := @1", "x=@1"},
		{"[a] y list; x int; b.c text; a bool = true", "! unset b.c; unset x; unset y"},
		{"[a] x int; on bool = false; x := 1 @1 ? on", "! unset x"},
		{"[a] x int; on bool; x := 1 @1 ? on", "! unset on; unset x"},
		{"[a] n bool = true needs m; m bool = true", "m=true@0; n=true@0"},
		{"[a] n bool = true needs m; m bool = false", "! needs n m"},
		{"[a] n bool = false needs m; m bool = false", "m=false@0; n=false@0"},
		{"[a] n bool needs m; m bool = false; n := true @9", "! needs n m"},
		{"[a] n bool needs m; m bool = false; n := true @9; m := true @900", "m=true@900; n=true@9"},
		{"[a] n bool = true needs m; m bool = true; m := false @900", "! needs n m"},
		{"[a] n bool = true needs m; m bool", "! needs n m; unset m"},
		{"[a] n bool needs m; m bool", "! unset m; unset n"},
		{"[a] n bool needs m; m bool = true", "! unset n"},
		{"[a] n bool = true needs n", "n=true@0"},
		{"[a] n bool = true needs m n; m bool = true needs n", "m=true@0; n=true@0"},
		{"[a] n bool = true needs m; m bool = true needs l; l bool = false", "! needs m l"},
		{"[a] n bool = true needs l m o; m bool = false; o bool = false; l bool = true", "! needs n m; needs n o"},
		{"[a] n bool = true needs m; m int = 1", "! needs n m"},
		{"[a] n bool = true needs m; m list = true false", "! needs n m"},
		{"[a] c int; c := 1 @1; c := 2 @1; u int; n bool = true needs m; m bool = false; l bool = true; l := true @1 ? l", "! conflict c; loop l; needs n m; unset u"},
	})
}

// The first declaration alone counts, whatever comes behind; that there are two is a fault anyway, so it is seen in faults alone.
func TestFirstDeclarationsAlone(t *testing.T) {
	mergesAre(t, [][2]string{
		{"[a] x int; x bool [b] x := 7 @1", "! twice x"},
		{"[a] x bool; x int [b] x := 7 @1", "! twice x; value x"},
		{"[a] x int [b] x bool [c] x := 7 @1", "! twice x"},
		{"[a] x bool [b] x int [c] x := 7 @1", "! twice x; value x"},
		{"[a] x bool; x int; y int; y := 7 @1 ? x", "! twice x"},
		{"[a] x int; x bool; y int; y := 7 @1 ? x", "! twice x; when x"},
		{"[a] x bool [b] x bool needs y", "! twice x"},
		{"[a] x bool needs y [b] x bool", "! twice x; unknown y"},
		{"[a] x bool; x bool needs y", "! twice x"},
		{"[a] x bool needs y; x bool", "! twice x; unknown y"},
		{"[a] x bool needs y; x bool needs z", "! twice x; unknown y"},
		{"[a] y int [b] x a|b = a [c] x b|c = c; x := c @1", "! twice x; value x"},
		{"[a] y int [b] x a|b = a [c] x b|c = c; x := a @1", "! twice x"},
	})
	// Who declares it first hangs on what is imported.
	ms := modulesOf("[a] x bool = true [b] x int = 7 [c] x := 9 @1 [d] x a|b")
	for start, want := range map[string]string{
		"b c": "x=9@1", "a c": "! value x", "a b": "! twice x", "a b c": "! twice x; value x", "b c d": "! twice x", "d c": "! value x", "c d a": "! twice x; value x", "a": "x=true@0", "b": "x=7@0", "d": "! unset x",
	} {
		mergeIs(t, ms, strings.Fields(start), want)
	}
}

func TestRanksOfDefinitions(t *testing.T) {
	mergesAre(t, [][2]string{
		{"[a] x int; x := 1 @1; x := 2 @2", "x=1@1"},
		{"[a] x int; x := 1 @2; x := 2 @1", "x=2@1"},
		{"[a] x int; x := 1 @1000; x := 2 @999", "x=2@999"},
		{"[a] x int; x := 1 @1000", "x=1@1000"},
		{"[a] x int; x := 1 @10; x := 2 @9; x := 3 @100", "x=2@9"},
		{"[a] x := 1 @10; x int; x := 2 @9 [b] x := 3 @8", "x=3@8"},
		{"[a] x := 1 @10 [b] x := 3 @8 [c] x int", "x=3@8"},
		{"[a] x int; x := 1 @10; x := 2 @10; x := 3 @9", "x=3@9"},
		{"[a] x int; on bool = true; x := 1 @10; x := 2 @9 ? on", "on=true@0; x=2@9"},
		{"[a] x int; on bool = false; x := 1 @10; x := 2 @9 ? on", "on=false@0; x=1@10"},
		{"[a] x int; on bool = false; x := 1 @10; x := 2 @10 ? on", "on=false@0; x=1@10"},
		{"[a] x int; on bool = true; x := 1 @10; x := 2 @10 ? on", "! conflict x"},
		{"[a] x int; on bool = true; off bool = false; x := 1 @10; x := 2 @9 ? off; x := 3 @5 ? on; x := 4 @4 ? off", "off=false@0; on=true@0; x=3@5"},
		{"[a] x int = 5; on bool = false; x := 1 @1 ? on", "on=false@0; x=5@0"},
		{"[a] x int = 5; on bool = false; x := 1 @1 ? on [b] on := true @1", "on=true@1; x=1@1"},
		{"[a] x int = 5; on bool = false; x := 1 @1 ? on [b] on := true @2; on := false @1", "on=false@1; x=5@0"},
		{"[a] a int; x bool = false; z bool = false; a := 1 @9; a := 2 @8 ? x; x := true @3 ? z; z := true @4", "a=2@8; x=true@3; z=true@4"},
		{"[a] z int; x bool = false; b bool = false; z := 1 @9; z := 2 @8 ? x; x := true @3 ? b; b := true @4", "b=true@4; x=true@3; z=2@8"},
	})
}

func TestListsOfDefinitions(t *testing.T) {
	mergesAre(t, [][2]string{
		{"[a] x list; x := a @1", "x=a@1"},
		{"[a] x list; x := a @1; x := b @1", "x=a b@1"},
		{"[a] x list; x := b @1; x := a @1", "x=b a@1"},
		{"[a] x list; x := a @1; x := a @1", "x=a a@1"},
		{"[a] x list; x := a @1; x := b @2; x := c @1", "x=a c@1"},
		{"[a] x list; x := a b @1 [b] x := c @1 [c] x := d e f @1", "x=a b c d e f@1"},
		{"[a] x := c @1 [b] x := b @1 [c] x list; x := a @1", "x=c b a@1"},
		{"[a] x list; x := @1; x := a @1; x := @1; x := b @1; x := @1", "x=a b@1"},
		{"[a] x list; x := @1; x := @1", "x=@1"},
		{"[a] x list = q; x := @1", "x=@1"},
		{"[a] x list = q; x := a @7", "x=a@7"},
		{"[a] x list = q r", "x=q r@0"},
		{"[a] x list =", "x=@0"},
		{"[a] x list = q; on bool = false; x := a @7 ? on", "on=false@0; x=q@0"},
		{"[a] x list = q; on bool = true; x := a @7 ? on; x := b @7; x := c @7 ? on", "on=true@0; x=a b c@7"},
		{"[a] x list = q; on bool = false; x := a @7 ? on; x := b @7; x := c @7 ? on", "on=false@0; x=b@7"},
		{"[a] x list = q; on bool = false; x := a @6 ? on; x := b @7 [b] x := c @7; x := @6 ? on", "on=false@0; x=b c@7"},
		{"[a] x list = q; on bool = true; x := @6 ? on; x := b @7 [b] x := c @7", "on=true@0; x=@6"},
	})
	// Merged lists have no limit of their own.
	long := strings.TrimSpace(strings.Repeat("word ", 1000))
	ms := []impl.Module{{Name: "m", Options: []impl.Option{{Name: "x", Type: "list"}}}}
	for range 20 {
		ms[0].Defs = append(ms[0].Defs, impl.Def{Option: "x", Value: long, Rank: 1})
	}
	mergeIs(t, ms, []string{"m"}, "x="+strings.TrimSpace(strings.Repeat(long+" ", 20))+"@1")
}

func TestLoopsOfOptions(t *testing.T) {
	mergesAre(t, [][2]string{
		{"[a] a bool = true; a := true @1 ? a", "! loop a"},
		{"[a] a bool = true; a := true @1; a := false @1000 ? a", "! loop a"},
		{"[a] a bool = true; b bool = true; a := true @1 ? b; b := true @1 ? a", "! loop a; loop b"},
		{"[a] a bool = true; b bool = true; c bool = true; a := true @1 ? b; b := true @1 ? c; c := true @1 ? a", "! loop a; loop b; loop c"},
		{"[a] a bool = true; b bool = true; c bool = true; c := true @1 ? b; b := true @1 ? a; a := true @1 ? c", "! loop a; loop b; loop c"},
		// What only asks for a loop is being reckoned too, if it comes first.
		{"[a] a bool = true; b bool = true; a := true @1 ? b; b := true @1 ? b", "! loop a; loop b"},
		{"[a] a bool = true; b bool = true; b := true @1 ? a; a := true @1 ? a", "! loop a"},
		{"[a] a int = 1; b bool = true; a := 2 @1 ? b; b := true @1 ? b", "! loop a; loop b"},
		{"[a] z int = 1; b bool = true; z := 2 @1 ? b; b := true @1 ? b", "! loop b"},
		{"[a] a bool = true; b bool = true; c bool = true; a := true @1 ? b; b := true @1 ? c; c := true @1 ? b", "! loop a; loop b; loop c"},
		{"[a] a bool = true; b bool = true; c bool = true; a := true @1 ? c; b := true @1 ? c; c := true @1 ? c", "! loop a; loop c"},
		// In which order a module asks is seen: behind c, b asks what is known.
		{"[a] a bool = true; b bool = true; c bool = true; a := true @1 ? b; a := true @1 ? c; b := true @1 ? c; c := true @1 ? c", "! loop a; loop b; loop c"},
		{"[a] a bool = true; b bool = true; c bool = true; a := true @1 ? c; a := true @1 ? b; b := true @1 ? c; c := true @1 ? c", "! loop a; loop c"},
		// Asked twice, and beside a loop, there is none.
		{"[a] a bool = true; b bool = true; c bool = true; a := true @1 ? b; a := true @1 ? c; b := true @2 ? c", "a=true@1; b=true@2; c=true@0"},
		{"[a] a bool = true; b bool = true; a := true @1 ? b; a := true @2 ? b; a := true @1 ? b", "a=true@1; b=true@0"},
		{"[a] a bool = true; b bool = true; c int = 5; d bool = true; a := true @1 ? b; b := true @1 ? a; c := 6 @1 ? d", "! loop a; loop b"},
		// A definition that others outrank is asked for its When too.
		{"[a] a bool = true; a := false @1; a := true @2 ? a", "! loop a"},
		{"[a] a int = 1; b bool = false; a := 2 @1; a := 3 @9 ? b; b := true @1 ? b", "! loop a; loop b"},
		// Whoever is asked while it is being reckoned counts as false there.
		{"[a] a bool; a := true @1 ? a", "! loop a; unset a"},
		{"[a] a bool = true; a := true @1 ? a; a := false @1 ? a", "! loop a"},
		{"[a] a bool; a := true @1; a := false @1 ? a", "! loop a"},
		{"[a] a bool = true; b int; a := true @1; b := 1 @1 ? a; b := 2 @1", "! conflict b"},
		{"[a] a bool; b bool; a := true @1 ? b; b := true @1 ? a", "! loop a; loop b; unset a; unset b"},
		{"[a] a bool; b bool = true; a := true @1 ? b; b := false @1 ? a", "! loop a; loop b"},
		{"[a] a bool = true; b bool; a := true @1 ? b; b := true @1 ? a", "! loop a; loop b; unset b"},
		// What was reckoned in a loop is not reckoned again.
		{"[a] a bool = true needs b; b bool = false; a := true @1; a := true @2 ? b; b := true @1 ? a", "! loop a; loop b; needs a b"},
		{"[a] a bool = true needs c; b bool = false; c bool = true; a := true @2; a := false @1 ? b; b := true @1 ? a; c := false @1 ? b", "! loop a; loop b"},
		{"[a] a bool = true needs c; b bool = true; c bool = true; a := true @1; a := true @2 ? b; b := false @1 ? a; c := false @1 ? b", "! loop a; loop b; needs a c"},
	})
}

// Needs ask for what an option is worth in the end, also where that is the value of nothing or the first of several.
func TestNeedsBesideOtherFaults(t *testing.T) {
	mergesAre(t, [][2]string{
		{"[a] n bool needs m; m bool = false; n := true @1; n := false @1", "! conflict n; needs n m"},
		{"[a] n bool needs m; m bool = false; n := false @1; n := true @1", "! conflict n"},
		{"[a] n bool = true needs m; m bool; m := true @1; m := false @1", "! conflict m"},
		{"[a] n bool = true needs m; m bool; m := false @1; m := true @1", "! conflict m; needs n m"},
		{"[a] n bool = true needs m; m int", "! needs n m; unset m"},
		{"[a] n bool = true needs m; m text", "! needs n m; unset m"},
		{"[a] n bool = true needs m; m list", "! needs n m; unset m"},
		{"[a] n bool = true needs m; m false|true", "! needs n m; unset m"},
		{"[a] n bool = true needs m; m true|false", "! unset m"},
		{"[a] n bool = true needs m; m text = true", "m=true@0; n=true@0"},
	})
}

// everyDefs are rows of definitions of one option; % is its name.
func everyDefs() []string {
	rows := []string{""}
	for _, when := range []string{"", " ? a", " ? b", " ? c"} {
		for _, value := range []string{"true", "false"} {
			rows = append(rows, "; % := "+value+" @2"+when)
		}
	}
	return append(rows, "; % := true @1 ? a; % := false @2", "; % := true @2 ? b; % := false @2", "; % := false @2 ? c; % := true @2 ? b", "; % := true @2 ? a; % := true @2 ? c")
}

// Three options with every choice of definitions.
func TestEverySmallSystem(t *testing.T) {
	rows := everyDefs()
	defaults := []string{" = true needs c", "", " = false needs b"}
	outcomes := map[string]int{}
	for _, one := range rows {
		for _, two := range rows {
			for number, three := range rows {
				given := defaults[number%len(defaults)]
				row := "[m] a bool" + given + "; b bool = true; c bool = false" + strings.ReplaceAll(one, "%", "a") + strings.ReplaceAll(two, "%", "b") + strings.ReplaceAll(three, "%", "c")
				config := mergeHolds(t, modulesOf(row), []string{"m"})
				for _, fault := range config.Faults {
					kind, _, _ := strings.Cut(fault, " ")
					outcomes[kind]++
				}
				if len(config.Faults) == 0 {
					outcomes["settings"]++
				}
			}
		}
	}
	for _, kind := range []string{"settings", "conflict", "unset", "needs", "loop"} {
		if outcomes[kind] < 100 {
			t.Error(outcomes)
		}
	}
}

// mergeHolds holds an answer against plain words, and the promises against the answer.
func mergeHolds(t *testing.T, ms []impl.Module, start []string) impl.Config {
	t.Helper()
	got, want := impl.Merge(ms, start), plainMerge(ms, start)
	if !same(got, want) {
		t.Fatalf("%+v from %q: %v, not %v", ms, start, got, want)
	}
	if len(got.Faults) > 0 && len(got.Settings) > 0 || !plainRises(got.Faults) {
		t.Fatalf("%+v from %q: %v", ms, start, got)
	}
	if !plainModulesOk(ms) {
		return got
	}
	holdsInAnyOrder(t, ms, start, got)
	if len(got.Faults) == 0 {
		typesHold(t, ms, start, got)
		fixpointHolds(t, ms, start, got)
	}
	return got
}

func holdsInAnyOrder(t *testing.T, ms []impl.Module, start []string, got impl.Config) {
	t.Helper()
	names := impl.Imported(ms, start)
	backward := slices.Clone(start)
	slices.Reverse(backward)
	missing := slices.DeleteFunc(slices.Clone(start), func(name string) bool { return plainModuleAt(ms, name) >= 0 })
	needed := slices.DeleteFunc(slices.Clone(ms), func(m impl.Module) bool { return !slices.Contains(names, m.Name) })
	more := append(slices.Clone(ms), impl.Module{
		Name: "zzzz", Imports: names[:min(1, len(names))],
		Options: []impl.Option{{Name: "a", Type: "int"}, {Name: "zz", Type: "bool"}},
		Defs:    []impl.Def{{Option: "b", Value: "?", Rank: 1, When: "zzz"}},
	})
	for what, again := range map[string]impl.Config{
		"again":                      impl.Merge(ms, start),
		"from the last name on":      impl.Merge(ms, backward),
		"with names twice":           impl.Merge(ms, append(backward, start...)),
		"with all that are imported": impl.Merge(ms, append(missing, names...)),
		"without what none imports":  impl.Merge(needed, start),
		"with more that none does":   impl.Merge(more, start),
	} {
		if !same(again, got) {
			t.Fatalf("%+v from %q, %s: %v, not %v", ms, start, what, again, got)
		}
	}
}

// firstOptions are the options that are declared, by their names.
func firstOptions(ms []impl.Module, names []string) map[string]impl.Option {
	options := map[string]impl.Option{}
	for _, m := range ms {
		for _, o := range m.Options {
			if _, isThere := options[o.Name]; slices.Contains(names, m.Name) && !isThere {
				options[o.Name] = o
			}
		}
	}
	return options
}

func typesHold(t *testing.T, ms []impl.Module, start []string, got impl.Config) {
	t.Helper()
	options := firstOptions(ms, impl.Imported(ms, start))
	values := map[string]string{}
	for i, s := range got.Settings {
		values[s.Name] = s.Value
		if i > 0 && got.Settings[i-1].Name >= s.Name || !impl.ValueOk(options[s.Name].Type, s.Value) {
			t.Fatalf("%+v from %q: %q is no value of %q", ms, start, s.Value, s.Name)
		}
	}
	if len(values) != len(options) {
		t.Fatalf("%+v from %q: %v", ms, start, got)
	}
	for name, o := range options {
		for _, need := range o.Needs {
			if values[name] == "true" && values[need] != "true" {
				t.Fatalf("%+v from %q: %q needs %q", ms, start, name, need)
			}
		}
	}
}

// fixpointHolds reckons again with the settings as definitions of Rank 1, where there was none.
func fixpointHolds(t *testing.T, ms []impl.Module, start []string, got impl.Config) {
	t.Helper()
	names := impl.Imported(ms, start)
	firm := map[string]bool{}
	for _, m := range ms {
		for _, d := range m.Defs {
			firm[d.Option] = firm[d.Option] || d.Rank == 1 && slices.Contains(names, m.Name)
		}
	}
	more := slices.Clone(ms)
	from := slices.Clone(start)
	for i, s := range got.Settings {
		if i%20 == 0 {
			more = append(more, impl.Module{Name: fmt.Sprintf("zzz%03d", i)})
			from = append(from, more[len(more)-1].Name)
		}
		if !firm[s.Name] {
			last := &more[len(more)-1]
			last.Defs = append(last.Defs, impl.Def{Option: s.Name, Value: s.Value, Rank: 1})
		}
	}
	again := impl.Merge(more, from)
	if len(again.Faults) > 0 || len(again.Settings) != len(got.Settings) {
		t.Fatalf("%+v from %q, with its settings %v: %v", ms, start, got, again)
	}
	for i, s := range again.Settings {
		if before := got.Settings[i]; s.Name != before.Name || s.Value != before.Value || s.Rank != 1 && (firm[s.Name] && s.Rank != before.Rank || !firm[s.Name]) {
			t.Fatalf("%+v from %q: %v, with its settings %v", ms, start, before, s)
		}
	}
}

type moduleMaker struct{ *rand.Rand }

func (m moduleMaker) one(texts ...string) string { return texts[m.Intn(len(texts))] }

func (m moduleMaker) some(texts ...string) []string {
	return slices.DeleteFunc(slices.Clone(texts), func(string) bool { return m.Intn(3) > 0 })
}

// The options by chance have one Type each, so that most definitions have a value of it.
var chanceTypes = map[string]string{"a": "bool", "b": "bool", "c": "bool", "d.e": "bool", "f": "int", "g": "list", "h": "x|y", "i": "text"}

func (m moduleMaker) value(kind string) string {
	switch kind {
	case "bool":
		return m.one("true", "false")
	case "int":
		return m.one("0", "1", "-7")
	case "list":
		return m.one("", "p", "q r")
	case "text":
		return m.one("", "t", "a b")
	}
	return m.one(strings.Split(kind, "|")...)
}

func (m moduleMaker) option(name string) impl.Option {
	o := impl.Option{Name: name, Type: chanceTypes[name], Given: m.Intn(8) > 0}
	if o.Given {
		o.Default = m.value(o.Type)
	}
	if o.Type == "bool" && m.Intn(4) == 0 {
		o.Needs = m.some("a", "b", "c", "d.e", "h")
	}
	return o
}

func (m moduleMaker) def() impl.Def {
	d := impl.Def{Option: m.one("a", "b", "c", "d.e", "f", "g", "h", "i"), Rank: int64(1 + m.Intn(4))}
	d.Value = m.value(chanceTypes[d.Option])
	if m.Intn(3) == 0 {
		d.When = m.one("a", "b", "c", "d.e")
	}
	switch m.Intn(60) {
	case 0:
		d.Value = m.one("?", "true", "7", " ", "x")
	case 1:
		d.When = m.one("f", "g", "none")
	case 2:
		d.Option = m.one("none", "a.b")
	case 3:
		d.Rank = m.Int63n(1000) + 1
	}
	return d
}

// system has every option declared by some module, mostly.
func (m moduleMaker) system() []impl.Module {
	ms := modulesOf("[m1] [m2] [m3] [m4] [m5]")
	names := moduleNames(ms)
	for i := range ms {
		ms[i].Imports = m.some(names...)
		if m.Intn(30) == 0 {
			ms[i].Imports = append(ms[i].Imports, m.one("none", "z"))
		}
		for range m.Intn(4) {
			ms[i].Defs = append(ms[i].Defs, m.def())
		}
	}
	for _, name := range slices.Sorted(maps.Keys(chanceTypes)) {
		for range []int{0, 2, 1}[min(m.Intn(100), 2)] {
			at := m.Intn(len(ms))
			ms[at].Options = append(ms[at].Options, m.option(name))
		}
	}
	return ms
}

func (m moduleMaker) start() []string {
	start := []string{}
	for range 1 + m.Intn(4) {
		start = append(start, m.one("m1", "m2", "m3", "m4", "m5"))
	}
	if m.Intn(30) == 0 {
		start = append(start, m.one("none", "", "m"))
	}
	return start
}

func TestMergeByChance(t *testing.T) {
	m := moduleMaker{rand.New(rand.NewSource(171))}
	outcomes := map[string]int{}
	for range 12000 {
		ms, start := m.system(), m.start()
		if m.Intn(40) == 0 {
			m.spoil(ms)
		}
		if !impl.ModulesOk(ms) {
			outcomes["can't be"]++
		}
		if impl.ModulesOk(ms) != plainModulesOk(ms) || !same(impl.Imported(ms, start), plainImported(ms, start)) {
			t.Fatalf("%+v from %q", ms, start)
		}
		got := mergeHolds(t, ms, start)
		for _, fault := range got.Faults {
			kind, _, _ := strings.Cut(fault, " ")
			outcomes[kind]++
		}
		if len(got.Settings) > 5 {
			outcomes["settings"]++
		}
	}
	for _, kind := range []string{"can't be", "settings", "missing", "twice", "unknown", "when", "value", "conflict", "unset", "needs", "loop"} {
		if outcomes[kind] < 80 {
			t.Error(kind, outcomes)
		}
	}
}

func (m moduleMaker) spoil(ms []impl.Module) {
	at := &ms[m.Intn(len(ms))]
	switch m.Intn(8) {
	case 0:
		at.Name = m.one("", ".m", "m1", "zz")
	case 1:
		at.Imports = append(at.Imports, m.one("a", "", "m 6"))
	case 2:
		at.Defs = append(at.Defs, impl.Def{Option: "a", Value: "true", Rank: int64(1001 * m.Intn(2))})
	case 3:
		at.Defs = append(at.Defs, impl.Def{Option: m.one("", "a..b", "a b"), Rank: 1})
	case 4:
		at.Defs = append(at.Defs, impl.Def{Option: "a", Value: "true", Rank: 1, When: m.one(".", "a b", "b.")})
	case 5:
		at.Options = append(at.Options, impl.Option{Name: "q", Type: m.one("", "x", "x|x", "int"), Needs: []string{"a"}})
	case 6:
		at.Options = append(at.Options, impl.Option{Name: "q", Type: "int", Default: m.one("x", "1"), Given: m.Intn(2) == 0})
	case 7:
		at.Options = append(at.Options, impl.Option{Name: "q", Type: "bool", Needs: []string{"b", m.one("a", "b", "c")}})
	}
}

// greatSystem has as many options as can be; when names the one that each asks for (none below 0).
func greatSystem(when func(number int) int) []impl.Module {
	ms := manyModules(100)
	name := func(number int) string { return fmt.Sprintf("%s.o%04d", parts(7, strings.Repeat("p", 60)), number) }
	for number := range 2000 {
		at := &ms[number/20]
		d := impl.Def{Option: name(number), Value: "true", Rank: 7}
		if asked := when(number); asked >= 0 {
			d.When = name(asked)
		}
		at.Options = append(at.Options, impl.Option{Name: name(number), Type: "bool", Default: "false", Given: true})
		at.Defs = append(at.Defs, d)
	}
	return ms
}

// Each option asks for another: all the way down, all the way up, and round.
func TestMergeOfTheGreatestSystems(t *testing.T) {
	names := manyNames(100)
	count := func(ms []impl.Module) string {
		began := time.Now()
		c := impl.Merge(ms, names)
		if took := time.Since(began); took > 20*time.Second {
			t.Error("it took", took)
		}
		kinds := map[string]int{}
		for _, s := range c.Settings {
			kinds[fmt.Sprint(s.Value, s.Rank)]++
		}
		for _, fault := range c.Faults {
			kind, _, _ := strings.Cut(fault, " ")
			kinds[kind]++
		}
		return fmt.Sprint(kinds)
	}
	for what, r := range map[string]struct {
		when func(number int) int
		want string
	}{
		"none":                   {func(int) int { return -1 }, "map[true7:2000]"},
		"the one ahead":          {func(number int) int { return number - 1 }, "map[true7:2000]"},
		"the one behind":         {func(number int) int { return (number+2)%2001 - 1 }, "map[true7:2000]"},
		"the first":              {func(number int) int { return min(0, number-1) }, "map[true7:2000]"},
		"round":                  {func(number int) int { return (number + 1) % 2000 }, "map[loop:2000]"},
		"round the other way":    {func(number int) int { return (number + 1999) % 2000 }, "map[loop:2000]"},
		"themselves":             {func(number int) int { return number }, "map[loop:2000]"},
		"behind, and the last":   {func(number int) int { return min(number+1, 1999) }, "map[loop:2000]"},
		"ahead, and the first":   {func(number int) int { return max(number-1, 0) }, "map[loop:1]"},
		"pairs":                  {func(number int) int { return number ^ 1 }, "map[loop:2000]"},
		"the first, which loops": {func(int) int { return 0 }, "map[loop:1]"},
	} {
		if got := count(greatSystem(r.when)); got != r.want {
			t.Errorf("each asks for %s: %s, not %s", what, got, r.want)
		}
	}
	off := greatSystem(func(number int) int { return number - 1 })
	off[0].Defs[0].Value = "false"
	if got := count(off); got != "map[false0:1999 false7:1]" {
		t.Error(got)
	}
}

// However goroutines run, and whoever else asks at the same time, the answer is the same, and none is left behind.
func TestMergesAreTheSameEachTime(t *testing.T) {
	before := runtime.NumGoroutine()
	m := moduleMaker{rand.New(rand.NewSource(172))}
	names := manyNames(100)
	lists := [][]impl.Module{greatSystem(func(number int) int { return number * 7 % 2000 }), greatSystem(func(number int) int { return number/2 - 1 }), manyModules(100)}
	for i := range lists[2] {
		lists[2][i].Imports = m.some("x", "y", "z")
		lists[2][i].Options = []impl.Option{m.option("a"), m.option("f")}
		lists[2][i].Defs = []impl.Def{{Option: fmt.Sprint("o", i%7), Rank: 1}, {Option: "a", Value: "?", Rank: 1, When: "f"}}
	}
	wants := []impl.Config{}
	for _, ms := range lists {
		wants = append(wants, impl.Merge(ms, names))
	}
	if len(wants[0].Faults) == 0 || len(wants[1].Settings) != 2000 || len(wants[2].Faults) != 3+7+2+1+1 {
		t.Fatal(len(wants[0].Faults), len(wants[1].Settings), wants[2].Faults)
	}
	for _, procs := range []int{1, 2, 8} {
		was := runtime.GOMAXPROCS(procs)
		var joined sync.WaitGroup
		for i := range 8 {
			joined.Go(func() {
				for range 3 {
					if got := impl.Merge(lists[i%3], names); !same(got, wants[i%3]) {
						t.Errorf("%d: another answer: %.300q", procs, fmt.Sprint(got))
					}
				}
			})
		}
		joined.Wait()
		runtime.GOMAXPROCS(was)
	}
	for range 1000 {
		if runtime.NumGoroutine() <= before {
			return
		}
		time.Sleep(time.Millisecond)
	}
	t.Errorf("%d goroutines, not %d", runtime.NumGoroutine(), before)
}

func TestMergesAreNewMemory(t *testing.T) {
	// Go keeps texts of one byte in a place of its own, so these are longer.
	const base = "[base < logs] net.on bool = true needs users; users bool = true; names list = ann bob; mode fast|safe = safe; port int = 8080; note text = long text [logs] size int; size := 1234 @55; logs list; logs := one two @55"
	const web = "[web < base] names := carl @100; names := @100; mode := fast @7 ? net.on; note := another text @3"
	rows := []string{
		base + web,
		base + web + "[x < missing.one web] zzz := 1 @1; mode := none @1 ? port; size int",
		base + web + "[x < web] port := 11 @1; port := 12 @1; open text; loop bool = true; loop := true @1 ? loop; needs bool = true needs loop open; pick first|second",
		"[base] [base]",
	}
	given, stays := []any{}, []func() bool{}
	lists := [][]impl.Module{}
	for _, row := range rows {
		ms, stay := roomyAll(modulesOf(row))
		lists, given, stays = append(lists, ms), append(given, ms), append(stays, stay)
	}
	start, stay := roomyAll([]string{"web", "web", "base"})
	other, otherStays := roomyAll([]string{"xx", "web", strings.Clone("missing.two"), "x"})
	kind, value := strings.Clone("first|second"), strings.Clone("second")
	given, stays = append(given, start, other, kind, value), append(stays, stay, otherStays)
	answers, befores := []any{}, []string{}
	see := func(answer any) {
		if !isNew(answer, given...) {
			t.Errorf("%v is not new", answer)
		}
		answers = append(answers, answer)
		befores = append(befores, fmt.Sprint(answer))
	}
	for range 2 {
		for _, ms := range append(lists, nil) {
			for _, from := range [][]string{start, other, start[:1], other[3:], nil} {
				impl.ModulesOk(ms)
				see(impl.Imported(ms, from))
				see(impl.Merge(ms, from))
			}
		}
		if !impl.ValueOk(kind, value) {
			t.Error(kind, value)
		}
	}
	for i, stay := range stays {
		if !stay() {
			t.Error("an argument was changed:", i)
		}
	}
	for i, answer := range answers {
		if fmt.Sprint(answer) != befores[i] {
			t.Errorf("a later call changed %s to %v", befores[i], answer)
		}
		if !isNew(answer, append(slices.Clone(answers[:i]), answers[i+1:]...)...) {
			t.Errorf("%s shares memory with a later answer", befores[i])
		}
	}
}

// What is written into an argument behind a call is not seen in its answer.
func TestMergesDoNotHangOnWhatWasGiven(t *testing.T) {
	ms := modulesOf("[a < b] x list = q r; y text = ; y := t @5 [b < a] z a|b; z := b @9")
	start := []string{"b"}
	names, config := impl.Imported(ms, start), impl.Merge(ms, start)
	start[0] = "?"
	for i := range ms {
		for k := range ms[i].Options {
			ms[i].Options[k] = impl.Option{}
		}
		for k := range ms[i].Defs {
			ms[i].Defs[k] = impl.Def{}
		}
		ms[i].Imports[0], ms[i] = "?", impl.Module{}
	}
	if !same(names, []string{"a", "b"}) || configText(config) != "x=q r@0; y=t@5; z=b@9" {
		t.Error(names, config)
	}
}
