package tests

import (
	"fmt"
	"math"
	"math/rand"
	"slices"
	"strconv"
	"strings"
	"testing"

	"loop.example/g00023/impl"
)

// profilesOf makes "me:2 1a 2b | you:0" the profiles me, with Now at the second of two Gens, and you, with none.
func profilesOf(row string) []impl.Profile {
	ps := []impl.Profile{}
	for one := range strings.SplitSeq(row, "|") {
		words := strings.Fields(one)
		if len(words) == 0 {
			continue
		}
		name, now, _ := strings.Cut(words[0], ":")
		p := impl.Profile{Name: name, Now: numberAt(now)}
		for _, word := range words[1:] {
			digits := strings.TrimRight(word, "abcdfg")
			p.Gens = append(p.Gens, impl.Gen{N: numberAt(digits), Path: pathAt(word[len(digits):])})
		}
		ps = append(ps, p)
	}
	return ps
}

func numberAt(digits string) int64 {
	n, err := strconv.ParseInt(digits, 10, 64)
	if err != nil {
		panic(err)
	}
	return n
}

func manyGens(n int) []impl.Gen {
	gens := []impl.Gen{}
	for i := range n {
		gens = append(gens, impl.Gen{N: int64(i + 1), Path: pathAt("abcdfg"[i%6 : i%6+1])})
	}
	return gens
}

func manyProfiles(n int) []impl.Profile {
	ps := []impl.Profile{}
	for i := range n {
		ps = append(ps, impl.Profile{Name: fmt.Sprintf("p%02d", i), Now: 1, Gens: manyGens(2)})
	}
	return ps
}

// What is none of a name, and none of an address.
func noNames() []string {
	return []string{"", ".", ".me", "a b", "me ", "m/e", "m:e", "m\x00e", "mé", "m\n", strings.Repeat("m", 61)}
}

func noAddresses() []string {
	return []string{"", "a", "x", wordAt("a"), wordAt("a") + "-", wordAt("a") + "-.a", wordAt("z") + "-z", "aaaaaaaaaaaae-a", pathAt("a") + " ", " " + pathAt("a"), "/" + pathAt("a"), pathAt("a") + "!out", wordAt("a") + "-" + strings.Repeat("x", 61), wordAt("a") + "+a", wordAt("A") + "-A"}
}

func profilesCan(t *testing.T, what string, ps []impl.Profile, want bool) {
	t.Helper()
	if plainProfilesOk(ps) != want {
		t.Errorf("%s: plain words do not say %v", what, want)
	}
	if impl.ProfilesOk(ps) != want {
		t.Errorf("%s: profiles? %v", what, !want)
	}
	if want {
		return
	}
	for _, p := range append(slices.Clone(ps), impl.Profile{Name: "other"}) {
		switched, one := impl.Switch(ps, p.Name, pathAt("a"))
		back, two := impl.Rollback(ps, p.Name)
		left, three := impl.Prune(ps, p.Name, 1)
		if len(switched)+len(back)+len(left) > 0 || one || two || three {
			t.Errorf("%s: Switch, Rollback or Prune of %q give something", what, p.Name)
		}
		if got := impl.Current(ps, p.Name); got != "" {
			t.Errorf("%s: the current path of %q is %q", what, p.Name, got)
		}
	}
	if got := impl.Roots(ps, pathsAt("a b")); len(got) > 0 {
		t.Errorf("%s: the roots are %q", what, got)
	}
}

func profilesAre(t *testing.T, what string, got []impl.Profile, gotOk bool, plain []impl.Profile, plainOk bool, want []impl.Profile, ok bool) {
	t.Helper()
	if plainOk != ok || !same(plain, want) {
		t.Errorf("%s: plain words say %v, not %v:\n%v\nnot %v", what, plainOk, ok, plain, want)
	}
	if gotOk != ok || !same(got, want) {
		t.Errorf("%s: %v, not %v:\n%v\nnot %v", what, gotOk, ok, got, want)
	}
}

func switchIs(t *testing.T, ps []impl.Profile, name, path string, want []impl.Profile, ok bool) {
	t.Helper()
	got, gotOk := impl.Switch(ps, name, path)
	plain, plainOk := plainSwitch(ps, name, path)
	profilesAre(t, fmt.Sprintf("%v, %q switched to %q", ps, name, path), got, gotOk, plain, plainOk, want, ok)
}

func rollbackIs(t *testing.T, ps []impl.Profile, name string, want []impl.Profile, ok bool) {
	t.Helper()
	got, gotOk := impl.Rollback(ps, name)
	plain, plainOk := plainRollback(ps, name)
	profilesAre(t, fmt.Sprintf("%v, %q rolled back", ps, name), got, gotOk, plain, plainOk, want, ok)
}

func pruneIs(t *testing.T, ps []impl.Profile, name string, keep int64, want []impl.Profile, ok bool) {
	t.Helper()
	got, gotOk := impl.Prune(ps, name, keep)
	plain, plainOk := plainPrune(ps, name, keep)
	profilesAre(t, fmt.Sprintf("%v, %q pruned to %d", ps, name, keep), got, gotOk, plain, plainOk, want, ok)
}

func currentIs(t *testing.T, ps []impl.Profile, name, want string) {
	t.Helper()
	if plain := plainCurrent(ps, name); plain != want {
		t.Errorf("plain words: the current path of %q in %v is %q, not %q", name, ps, plain, want)
	}
	if got := impl.Current(ps, name); got != want {
		t.Errorf("the current path of %q in %v is %q, not %q", name, ps, got, want)
	}
}

func rootsAre(t *testing.T, ps []impl.Profile, extra []string, want []string) {
	t.Helper()
	if plain := plainRoots(ps, extra); !same(plain, want) {
		t.Errorf("plain words: the roots of %v and %d more are %q, not %q", ps, len(extra), plain, want)
	}
	if got := impl.Roots(ps, extra); !same(got, want) {
		t.Errorf("the roots of %v and %d more are %q, not %q", ps, len(extra), got, want)
	}
}

func TestLimitsOfProfiles(t *testing.T) {
	if limits := []int64{impl.MaxGens, impl.MaxDeps, impl.MaxMany, impl.MaxInt}; !same(limits, []int64{50, 20, 2000, 1 << 53}) {
		t.Error(limits)
	}
}

func TestProfilesOk(t *testing.T) {
	for _, row := range []string{
		"", "me:0", "me:0 1a", "me:1 1a", "me:1 1a 2b 3c", "me:2 1a 2b 3c", "me:3 1a 2b 3c", "me:0 1a 2b 3c",
		"me:7 3a 7a 8a", "me:9007199254740992 1a 9007199254740992b", "me:1 1a | you:1 1a", "A:0 | a:0", "a:0 | a-:0 | aa:0 | b:0", "a.:0", "-:0", "+:0", "_:0", "0:0",
	} {
		profilesCan(t, row, profilesOf(row), true)
	}
	long := strings.Repeat("x", 60)
	profilesCan(t, "long names", []impl.Profile{{Name: long, Now: 1, Gens: []impl.Gen{{N: 1, Path: wordAt("a") + "-" + long}}}}, true)
	profilesCan(t, "an empty list of Gens", []impl.Profile{{Name: "me", Gens: []impl.Gen{}}}, true)
}

func TestProfilesThatCanNotBe(t *testing.T) {
	for _, row := range []string{
		"me:1", "me:-1", "me:2 1a", "me:-1 1a", "me:2 1a 3b", "me:4 1a 3b", "me:9223372036854775807 1a", "me:-9223372036854775808 1a",
		"me:0 0a", "me:0 0a 1b", "me:0 -1a", "me:-1 -1a", "me:0 -9223372036854775808a", "me:0 9007199254740993a", "me:9007199254740993 9007199254740993a", "me:0 1a 9223372036854775807b",
		"me:0 2a 1b", "me:0 1a 1b", "me:1 1a 1a", "me:0 1a 3b 2c", "me:0 1a 2b 2b",
		"b:0 | a:0", "a:0 | a:0", "a:0 | c:0 | b:0", "a:0 | A:0", "a:0 | b:0 | b:1 1a", "a:0 | b:0 | a:0", "a:0 | b:1 | c:0", "a:0 | c:0 2a 2a",
	} {
		profilesCan(t, row, profilesOf(row), false)
	}
	profilesCan(t, "the zero value", []impl.Profile{{}}, false)
	for _, name := range noNames() {
		profilesCan(t, fmt.Sprintf("the name %q", name), []impl.Profile{{Name: name}}, false)
		profilesCan(t, fmt.Sprintf("the name %q of one of two", name), slices.SortedFunc(slices.Values([]impl.Profile{{Name: name}, {Name: "me"}}), func(a, b impl.Profile) int { return strings.Compare(a.Name, b.Name) }), false)
	}
	for _, path := range noAddresses() {
		for at := range 3 {
			ps := profilesOf("me:2 1a 2b 3c")
			ps[0].Gens[at].Path = path
			profilesCan(t, fmt.Sprintf("the path %q", path), ps, false)
		}
	}
}

func TestProfilesOfMaxGensAndMaxDeps(t *testing.T) {
	for n, want := range map[int]bool{0: true, 1: true, 49: true, 50: true, 51: false, 100: false} {
		profilesCan(t, fmt.Sprint(n, " Gens"), []impl.Profile{{Name: "me", Gens: manyGens(n)}}, want)
		profilesCan(t, fmt.Sprint(n, " Gens of the last"), append(profilesOf("a:0 | b:1 1a"), impl.Profile{Name: "c", Now: int64(n), Gens: manyGens(n)}), want)
	}
	for n, want := range map[int]bool{0: true, 1: true, 19: true, 20: true, 21: false, 100: false} {
		profilesCan(t, fmt.Sprint(n, " profiles"), manyProfiles(n), want)
	}
	full := manyProfiles(20)
	for i := range full {
		full[i].Now, full[i].Gens = 50, manyGens(50)
	}
	profilesCan(t, "all that can be", full, true)
	full[19].Gens[49].Path += "/"
	profilesCan(t, "all that can be, with one path that is none", full, false)
}

func TestSwitch(t *testing.T) {
	const refused = "refused"
	for _, r := range [][4]string{
		{"", "me", "a", "me:1 1a"},
		{"me:0", "me", "a", "me:1 1a"},
		{"you:0", "me", "a", "me:1 1a | you:0"},
		{"he:1 1a", "me", "a", "he:1 1a | me:1 1a"},
		{"he:0 | you:2 1a 2b", "me", "c", "he:0 | me:1 1c | you:2 1a 2b"},
		{"me:1 1a", "me", "b", "me:2 1a 2b"},
		{"me:1 1a", "me", "a", "me:1 1a"},
		{"me:2 1a 2b", "me", "b", "me:2 1a 2b"},
		{"me:2 1a 2b", "me", "a", "me:3 1a 2b 3a"},
		{"me:1 1a 2b", "me", "a", "me:1 1a 2b"},
		{"me:1 1a 2b", "me", "b", "me:3 1a 2b 3b"},
		{"me:1 1a 2b", "me", "c", "me:3 1a 2b 3c"},
		{"me:2 1a 2b 3c", "me", "b", "me:2 1a 2b 3c"},
		{"me:2 1a 2b 3c", "me", "d", "me:4 1a 2b 3c 4d"},
		{"me:0 1a", "me", "a", "me:2 1a 2a"},
		{"me:0 1a 2b", "me", "b", "me:3 1a 2b 3b"},
		{"me:0 5a", "me", "b", "me:6 5a 6b"},
		{"me:3 3a 9b", "me", "c", "me:10 3a 9b 10c"},
		{"he:1 1a | me:1 1a | you:1 1a", "me", "b", "he:1 1a | me:2 1a 2b | you:1 1a"},
		{"me:1 1a 9007199254740991b", "me", "c", "me:9007199254740992 1a 9007199254740991b 9007199254740992c"},
		{"me:1 1a 9007199254740992b", "me", "c", refused},
		{"me:1 1a 9007199254740992b", "me", "b", refused},
		{"me:1 1a 9007199254740992b", "me", "a", "me:1 1a 9007199254740992b"},
		{"me:0 9007199254740992b", "me", "b", refused},
		{"me:9007199254740992 9007199254740992b", "me", "b", "me:9007199254740992 9007199254740992b"},
	} {
		ps := profilesOf(r[0])
		if r[3] == refused {
			switchIs(t, ps, r[1], pathAt(r[2]), ps, false)
			continue
		}
		want := profilesOf(r[3])
		switchIs(t, ps, r[1], pathAt(r[2]), want, true)
		currentIs(t, want, r[1], pathAt(r[2]))
	}
}

func TestSwitchOfWhatIsNoNameOrAddress(t *testing.T) {
	for _, ps := range [][]impl.Profile{nil, profilesOf("he:0 | me:1 1a 2b"), profilesOf("me:0"), profilesOf("me:0 1a")} {
		for _, name := range noNames() {
			switchIs(t, ps, name, pathAt("a"), ps, false)
			switchIs(t, ps, name, "", ps, false)
		}
		for _, path := range noAddresses() {
			switchIs(t, ps, "me", path, ps, false)
			switchIs(t, ps, "he", path, ps, false)
			switchIs(t, ps, "new", path, ps, false)
		}
	}
	long := strings.Repeat("x", 60)
	switchIs(t, nil, long, wordAt("g")+"-"+long, []impl.Profile{{Name: long, Now: 1, Gens: []impl.Gen{{N: 1, Path: wordAt("g") + "-" + long}}}}, true)
}

func TestSwitchAtLimits(t *testing.T) {
	for _, now := range []int64{0, 1, 25, 50} {
		full := []impl.Profile{{Name: "he"}, {Name: "me", Now: now, Gens: manyGens(50)}}
		switchIs(t, full, "me", pathAt("9"), full, false)
		switchIs(t, full, "me", full[1].Gens[30].Path, full, plainCurrent(full, "me") == full[1].Gens[30].Path)
		if now > 0 {
			switchIs(t, full, "me", full[1].Gens[now-1].Path, full, true)
		}
		almost := []impl.Profile{{Name: "he"}, {Name: "me", Now: min(now, 49), Gens: manyGens(49)}}
		want := []impl.Profile{{Name: "he"}, {Name: "me", Now: 50, Gens: append(manyGens(49), impl.Gen{N: 50, Path: pathAt("9")})}}
		switchIs(t, almost, "me", pathAt("9"), want, true)
	}
	many := manyProfiles(20)
	for _, name := range []string{"a", "p050", "z"} {
		switchIs(t, many, name, pathAt("a"), many, false)
		want := slices.SortedFunc(slices.Values(append(manyProfiles(19), profilesOf(name+":1 1a")...)), func(a, b impl.Profile) int { return strings.Compare(a.Name, b.Name) })
		switchIs(t, manyProfiles(19), name, pathAt("a"), want, true)
	}
	more := manyProfiles(20)
	more[7].Now, more[7].Gens = 3, append(more[7].Gens, impl.Gen{N: 3, Path: pathAt("9")})
	switchIs(t, many, many[7].Name, pathAt("9"), more, true)
	switchIs(t, many, many[7].Name, many[7].Gens[0].Path, many, true)
}

func TestRollback(t *testing.T) {
	const refused = "refused"
	for _, r := range [][3]string{
		{"", "me", refused},
		{"", "", refused},
		{"he:2 1a 2b", "me", refused},
		{"me:2 1a 2b", "m", refused},
		{"me:2 1a 2b", ".me", refused},
		{"me:0", "me", refused},
		{"me:0 1a", "me", refused},
		{"me:0 1a 2b", "me", refused},
		{"me:1 1a", "me", refused},
		{"me:1 1a 2b", "me", refused},
		{"me:7 7a 9b", "me", refused},
		{"me:2 1a 2b", "me", "me:1 1a 2b"},
		{"me:2 1a 2b 3c", "me", "me:1 1a 2b 3c"},
		{"me:3 1a 2b 3c", "me", "me:2 1a 2b 3c"},
		{"me:3 1a 2a 3a", "me", "me:2 1a 2a 3a"},
		{"me:9 2a 9b", "me", "me:2 2a 9b"},
		{"me:9007199254740992 5a 9007199254740992b", "me", "me:5 5a 9007199254740992b"},
		{"he:2 1a 2b | me:2 1a 2b | you:2 1a 2b", "me", "he:2 1a 2b | me:1 1a 2b | you:2 1a 2b"},
		{"he:2 1a 2b | me:2 1a 2b | you:1 1a 2b", "you", refused},
	} {
		ps := profilesOf(r[0])
		if r[2] == refused {
			rollbackIs(t, ps, r[1], ps, false)
		} else {
			rollbackIs(t, ps, r[1], profilesOf(r[2]), true)
		}
	}
	full := []impl.Profile{{Name: "me", Now: 50, Gens: manyGens(50)}}
	for now := int64(50); now > 1; now-- {
		full[0].Now = now
		rollbackIs(t, full, "me", []impl.Profile{{Name: "me", Now: now - 1, Gens: manyGens(50)}}, true)
	}
}

func TestPrune(t *testing.T) {
	const refused = "refused"
	for _, r := range []struct {
		ps, name string
		keep     int64
		want     string
	}{
		{"", "me", 0, refused},
		{"", "", 1, refused},
		{"he:0 1a", "me", 0, refused},
		{"me:0 1a", "m", 0, refused},
		{"me:0 1a", "me", -1, refused},
		{"me:1 1a 2b", "me", -1, refused},
		{"me:1 1a 2b", "me", math.MinInt64, refused},
		{"me:0", "me", -1, refused},
		{"me:0", "me", 0, "me:0"},
		{"me:0", "me", 7, "me:0"},
		{"me:0 1a 2b", "me", 0, "me:0"},
		{"me:0 1a 2b", "me", 1, "me:0 2b"},
		{"me:0 1a 2b", "me", 2, "me:0 1a 2b"},
		{"me:1 1a", "me", 0, "me:1 1a"},
		{"me:1 1a", "me", 1, "me:1 1a"},
		{"me:1 1a 2b", "me", 0, "me:1 1a"},
		{"me:1 1a 2b", "me", 1, "me:1 1a 2b"},
		{"me:2 1a 2b", "me", 0, "me:2 2b"},
		{"me:2 1a 2b", "me", 1, "me:2 2b"},
		{"me:1 1a 2b 3c 4d", "me", 0, "me:1 1a"},
		{"me:1 1a 2b 3c 4d", "me", 1, "me:1 1a 4d"},
		{"me:1 1a 2b 3c 4d", "me", 2, "me:1 1a 3c 4d"},
		{"me:2 1a 2b 3c 4d", "me", 0, "me:2 2b"},
		{"me:2 1a 2b 3c 4d", "me", 1, "me:2 2b 4d"},
		{"me:2 1a 2b 3c 4d", "me", 2, "me:2 2b 3c 4d"},
		{"me:3 1a 2b 3c 4d", "me", 2, "me:3 3c 4d"},
		{"me:4 1a 2b 3c 4d", "me", 2, "me:4 3c 4d"},
		{"me:4 1a 2b 3c 4d", "me", 3, "me:4 2b 3c 4d"},
		{"me:4 1a 2b 3c 4d", "me", 4, "me:4 1a 2b 3c 4d"},
		{"me:4 1a 2b 3c 4d", "me", 5, "me:4 1a 2b 3c 4d"},
		{"me:4 1a 2b 3c 4d", "me", math.MaxInt64, "me:4 1a 2b 3c 4d"},
		{"me:2 1a 2a 3a", "me", 1, "me:2 2a 3a"},
		{"me:5 3a 5b 9007199254740992c", "me", 1, "me:5 5b 9007199254740992c"},
		{"he:1 1a 2b | me:2 1a 2b | you:1 1a 2b", "me", 1, "he:1 1a 2b | me:2 2b | you:1 1a 2b"},
	} {
		ps := profilesOf(r.ps)
		if r.want == refused {
			pruneIs(t, ps, r.name, r.keep, ps, false)
		} else {
			pruneIs(t, ps, r.name, r.keep, profilesOf(r.want), true)
		}
	}
	full := []impl.Profile{{Name: "me", Now: 50, Gens: manyGens(50)}}
	for keep := range int64(52) {
		kept := manyGens(50)[50-max(1, min(50, keep)):]
		pruneIs(t, full, "me", keep, []impl.Profile{{Name: "me", Now: 50, Gens: kept}}, true)
	}
	for _, keep := range []int64{64, 256, 1 << 16, 1 << 31, 1 << 32, 1 << 53, 1 << 62, math.MaxInt64} {
		pruneIs(t, full, "me", keep, full, true)
		pruneIs(t, full, "me", -keep, full, false)
	}
}

func TestCurrent(t *testing.T) {
	for _, r := range [][3]string{
		{"me:1 1a", "me", "a"},
		{"me:1 1a 2b 3c", "me", "a"},
		{"me:2 1a 2b 3c", "me", "b"},
		{"me:3 1a 2b 3c", "me", "c"},
		{"he:1 1a | me:1 1b | you:1 1c", "he", "a"},
		{"he:1 1a | me:1 1b | you:1 1c", "me", "b"},
		{"he:1 1a | me:1 1b | you:1 1c", "you", "c"},
	} {
		currentIs(t, profilesOf(r[0]), r[1], pathAt(r[2]))
	}
	for _, r := range [][2]string{
		{"", "me"}, {"", ""}, {"me:0", "me"}, {"me:0 1a", "me"}, {"me:1 1a", "he"}, {"me:1 1a", "you"}, {"me:1 1a", ""}, {"me:1 1a", "m"}, {"me:1 1a", "mee"},
		{"me:2 1a", "me"}, {"me:1 1a | he:1 1b", "me"}, {"me:1 1a | he:1 1b", "he"}, {"me:1 1a | me:1 1b", "me"}, {"me:1 0a 1b", "me"},
	} {
		currentIs(t, profilesOf(r[0]), r[1], "")
	}
}

func TestRootsOfProfiles(t *testing.T) {
	for _, r := range [][3]string{
		{"", "", ""},
		{"me:0", "", ""},
		{"me:0 1a", "", "a"},
		{"me:1 1a 2b", "", "a b"},
		{"me:2 1b 2a 3c", "", "a b c"},
		{"me:2 1b 2b 3b", "", "b"},
		{"he:1 1b 2c | me:0 1c 2a | you:0", "", "a b c"},
		{"", "a", "a"},
		{"", "c a b", "a b c"},
		{"", "c a c a c", "a c"},
		{"me:1 1b", "a b c", "a b c"},
		{"me:1 1b", "b b", "b"},
		{"me:1 1b", "1 bb b", "1 b bb"},
	} {
		rootsAre(t, profilesOf(r[0]), pathsAt(r[1]), pathsAt(r[2]))
	}
	rootsAre(t, profilesOf("me:1 1b"), append(noAddresses(), pathAt("a")), pathsAt("a b"))
	rootsAre(t, nil, noAddresses(), nil)
	for _, row := range []string{"me:2 1a", "me:0 1a | me:0 1b", "you:0 1a | me:0 1b", "me:0 0a"} {
		rootsAre(t, profilesOf(row), pathsAt("a b"), nil)
	}
}

func TestRootsOfMaxMany(t *testing.T) {
	ps := profilesOf("me:1 1b")
	for _, path := range []string{"x", "", pathAt("b"), pathAt("c")} {
		many := slices.Repeat([]string{path}, 2000)
		many[1999] = pathAt("a")
		want := pathsAt("a b")
		if path == pathAt("c") {
			want = pathsAt("a b c")
		}
		rootsAre(t, ps, many, want)
		rootsAre(t, ps, append(many, pathAt("a")), nil)
		rootsAre(t, nil, append(many, pathAt("a")), nil)
	}
	all := []string{}
	for i := range 2000 {
		all = append(all, impl.Address("out", fmt.Sprint("p", i), nil))
	}
	full := manyProfiles(20)
	for i := range full {
		full[i].Gens = []impl.Gen{}
		for n := range int64(50) {
			full[i].Gens = append(full[i].Gens, impl.Gen{N: n + 1, Path: impl.Address("out", fmt.Sprintf("g%d-%d", i, n), nil)})
		}
	}
	rootsAre(t, full, all, plainRoots(full, all))
	if got := impl.Roots(full, all); len(got) != 3000 {
		t.Error(len(got))
	}
}

// profilesAgree holds all that is asked of a list against plain words.
func profilesAgree(t *testing.T, ps []impl.Profile, name, path string, keep int64, extra []string) {
	t.Helper()
	if got, want := impl.ProfilesOk(ps), plainProfilesOk(ps); got != want {
		t.Errorf("ProfilesOk of %v: %v", ps, got)
	}
	switched, isSwitched := plainSwitch(ps, name, path)
	switchIs(t, ps, name, path, switched, isSwitched)
	back, isBack := plainRollback(ps, name)
	rollbackIs(t, ps, name, back, isBack)
	left, isPruned := plainPrune(ps, name, keep)
	pruneIs(t, ps, name, keep, left, isPruned)
	currentIs(t, ps, name, plainCurrent(ps, name))
	rootsAre(t, ps, extra, plainRoots(ps, extra))
}

func TestEverySmallProfile(t *testing.T) {
	numbers := []int64{1, 2, 4}
	for which := range 1 << 3 {
		for letters := range 1 << 3 {
			p := impl.Profile{Name: "me"}
			for i, n := range numbers {
				if which>>i&1 == 1 {
					p.Gens = append(p.Gens, impl.Gen{N: n, Path: pathAt("ab"[letters>>i&1:][:1])})
				}
			}
			for p.Now = -1; p.Now <= 5; p.Now++ {
				ps := append(append(profilesOf("he:1 1a 2b"), p), profilesOf("you:0 1c")...)
				for i, path := range []string{pathAt("a"), pathAt("b"), pathAt("c"), "x", "", pathAt("d")} {
					for _, name := range []string{"he", "me", "new", "you", ""} {
						profilesAgree(t, ps, name, path, int64(i-1), pathsAt("b d"))
					}
				}
			}
		}
	}
}

// A profileMaker makes profiles of a few names and paths.
type profileMaker struct{ *rand.Rand }

func (m profileMaker) pick(words string) string {
	list := strings.Fields(words)
	return list[m.Intn(len(list))]
}

func (m profileMaker) name() string { return m.pick("he me mee x you") }

func (m profileMaker) path() string { return pathAt(m.pick("a b c aa d")) }

func (m profileMaker) profiles() []impl.Profile {
	ps := []impl.Profile{}
	for name := range strings.FieldsSeq("he me x you") {
		if m.Intn(3) == 0 {
			continue
		}
		p, n := impl.Profile{Name: name}, int64(0)
		for range m.Intn(6) {
			n += int64(1 + m.Intn(2)*m.Intn(4))
			p.Gens = append(p.Gens, impl.Gen{N: n, Path: m.path()})
		}
		if len(p.Gens) > 0 && m.Intn(4) > 0 {
			p.Now = p.Gens[m.Intn(len(p.Gens))].N
		}
		ps = append(ps, p)
	}
	return ps
}

// spoil makes a list with at least one profile nearly one of profiles.
func (m profileMaker) spoil(ps []impl.Profile) []impl.Profile {
	at, other := m.Intn(len(ps)), m.Intn(len(ps))
	p := &ps[at]
	gen := &impl.Gen{}
	if len(p.Gens) > 0 {
		gen = &p.Gens[m.Intn(len(p.Gens))]
	}
	switch m.Intn(7) {
	case 0:
		ps[at], ps[other] = ps[other], ps[at]
	case 1:
		return slices.Insert(ps, at, ps[other])
	case 2:
		p.Name = []string{"", ".he", m.name()}[m.Intn(3)]
	case 3:
		p.Now = int64(m.Intn(9) - 1)
	case 4:
		gen.N = []int64{-1, 0, 1, 2, 3, 4, 1 << 53, 1<<53 + 1, math.MaxInt64}[m.Intn(9)]
	case 5:
		gen.Path = []string{"", "x", wordAt("a"), m.path()}[m.Intn(4)]
	case 6:
		p.Gens = append(slices.Clone(p.Gens), *gen)
	}
	return ps
}

func TestProfilesByChance(t *testing.T) {
	m := profileMaker{rand.New(rand.NewSource(131))}
	can, done := map[bool]int{}, map[string]int{}
	for range 20000 {
		ps := m.profiles()
		for range m.Intn(3) {
			if len(ps) > 0 {
				ps = m.spoil(ps)
			}
		}
		name, path, keep := m.name(), m.path(), int64(m.Intn(7)-1)
		if m.Intn(20) == 0 {
			name = m.pick(". é a/b")
		}
		if m.Intn(10) == 0 {
			path = m.pick("x " + wordAt("a") + " -")
		}
		profilesAgree(t, ps, name, path, keep, []string{m.path(), path, m.path()})
		can[impl.ProfilesOk(ps)]++
		if _, ok := impl.Switch(ps, name, path); ok {
			done["switched"]++
		}
		if _, ok := impl.Rollback(ps, name); ok {
			done["rolled back"]++
		}
		if _, ok := impl.Prune(ps, name, keep); ok {
			done["pruned"]++
		}
	}
	if can[true] < 5000 || can[false] < 3000 || done["switched"] < 3000 || done["rolled back"] < 1000 || done["pruned"] < 3000 {
		t.Error(can, done)
	}
}

// othersStay tells whether two lists are the same but for the profile of that name.
func othersStay(a, b []impl.Profile, name string) bool {
	isIt := func(p impl.Profile) bool { return p.Name == name }
	return same(slices.DeleteFunc(slices.Clone(a), isIt), slices.DeleteFunc(slices.Clone(b), isIt))
}

func profileAt(ps []impl.Profile, name string) impl.Profile {
	if at := plainProfile(ps, name); at >= 0 {
		return ps[at]
	}
	return impl.Profile{}
}

// A switch adds one Gen to one profile and nothing else; rolled back from there, the last Gen is the current one again.
func switchHolds(t *testing.T, ps []impl.Profile, name, path string) []impl.Profile {
	t.Helper()
	before := profileAt(ps, name)
	switched, ok := impl.Switch(ps, name, path)
	if !ok {
		if !same(switched, ps) {
			t.Fatalf("a switch that is refused changes %v to %v", ps, switched)
		}
		return switched
	}
	after := profileAt(switched, name)
	if impl.Current(switched, name) != path || !othersStay(ps, switched, name) {
		t.Fatalf("%v: %q switched to %q is %v", ps, name, path, switched)
	}
	if plainCurrent(ps, name) == path {
		if !same(switched, ps) {
			t.Fatalf("%v: %q switched to what it has is %v", ps, name, switched)
		}
		return switched
	}
	if len(after.Gens) != len(before.Gens)+1 || !same(after.Gens[:len(before.Gens)], before.Gens) {
		t.Fatalf("%v: %q switched has other Gens: %v", ps, name, switched)
	}
	back, ok := impl.Rollback(switched, name)
	if ok != (len(before.Gens) > 0) {
		t.Fatalf("%v: switched and rolled back: %v", switched, ok)
	}
	if ok && before.Now == before.Gens[len(before.Gens)-1].N {
		if impl.Current(back, name) != plainCurrent(ps, name) || profileAt(back, name).Now != before.Now {
			t.Fatalf("%v: rolled back it is not what it was: %v", ps, back)
		}
	}
	return switched
}

func rollbackHolds(t *testing.T, ps []impl.Profile, name string) []impl.Profile {
	t.Helper()
	back, ok := impl.Rollback(ps, name)
	if ok == same(back, ps) || !othersStay(ps, back, name) || !same(profileAt(back, name).Gens, profileAt(ps, name).Gens) {
		t.Fatalf("%v rolled back: %v, %v", ps, back, ok)
	}
	if ok && plainNow(profileAt(back, name)) != plainNow(profileAt(ps, name))-1 {
		t.Fatalf("%v rolled back by more or less than one: %v", ps, back)
	}
	return back
}

func pruneHolds(t *testing.T, ps []impl.Profile, name string, keep int64) []impl.Profile {
	t.Helper()
	left, ok := impl.Prune(ps, name, keep)
	if !ok && !same(left, ps) || !othersStay(ps, left, name) || impl.Current(left, name) != plainCurrent(ps, name) {
		t.Fatalf("%v pruned: %v, %v", ps, left, ok)
	}
	if again, fine := impl.Prune(left, name, keep); fine != ok || !same(again, left) {
		t.Fatalf("%v pruned again: %v", left, again)
	}
	return left
}

func TestProfilesStepByStep(t *testing.T) {
	m := profileMaker{rand.New(rand.NewSource(132))}
	most := 0
	for range 60 {
		ps := []impl.Profile{}
		for range 150 {
			switch name := m.name(); m.Intn(12) {
			case 0, 1, 2:
				ps = rollbackHolds(t, ps, name)
			case 3:
				if m.Intn(10) == 0 {
					ps = pruneHolds(t, ps, name, int64(m.Intn(6)-1))
				}
			default:
				ps = switchHolds(t, ps, name, m.path())
			}
			if !impl.ProfilesOk(ps) || !plainProfilesOk(ps) {
				t.Fatalf("no profiles: %v", ps)
			}
			for _, p := range ps {
				most = max(most, len(p.Gens))
			}
		}
	}
	if most < 20 {
		t.Error("there were never many Gens:", most)
	}
}

// From the last Gen back to the first, each path that was switched to is met again.
func TestRollbackOfAllSwitches(t *testing.T) {
	ps, paths := []impl.Profile{}, []string{}
	for i := range 50 {
		path, ok := impl.Address("out", fmt.Sprint("p", i), nil), false
		if ps, ok = impl.Switch(ps, "me", path); !ok || impl.Current(ps, "me") != path || ps[0].Now != int64(i+1) {
			t.Fatal(i, ps)
		}
		paths = append(paths, path)
	}
	if _, ok := impl.Switch(ps, "me", pathAt("a")); ok {
		t.Error("one too many")
	}
	for i := 48; i >= 0; i-- {
		ok := false
		if ps, ok = impl.Rollback(ps, "me"); !ok || impl.Current(ps, "me") != paths[i] || len(ps[0].Gens) != 50 {
			t.Fatal(i, ps)
		}
	}
	if _, ok := impl.Rollback(ps, "me"); ok {
		t.Error("ahead of the first")
	}
}

func TestProfilesAreNewMemory(t *testing.T) {
	ps, stay := roomyAll(profilesOf("he:0 | me:2 1a 2b 3c | you:1 1a"))
	wrong, wrongStay := roomyAll(profilesOf("me:9 1a"))
	extra, extraStays := roomyAll(append(pathsAt("d a d"), "x"))
	name, own, path, now := strings.Clone("new"), strings.Clone("me"), pathAt("d"), pathAt("b")
	given := []any{ps, wrong, extra, name, own, path, now}
	answers, befores := []any{}, []string{}
	see := func(answer any) {
		if !isNew(answer, given...) {
			t.Errorf("%v is not new", answer)
		}
		answers = append(answers, answer)
		befores = append(befores, fmt.Sprint(answer))
	}
	for range 2 {
		for _, list := range [][]impl.Profile{ps, wrong, nil} {
			for _, n := range []string{name, own, ".x"} {
				for _, p := range []string{path, now, "x"} {
					switched, _ := impl.Switch(list, n, p)
					see(switched)
				}
				back, _ := impl.Rollback(list, n)
				see(back)
				for keep := int64(-1); keep < 5; keep++ {
					left, _ := impl.Prune(list, n, keep)
					see(left)
				}
				see(impl.Current(list, n))
			}
			see(impl.Roots(list, extra))
			see(impl.Roots(list, nil))
			impl.ProfilesOk(list)
		}
	}
	if !stay() || !wrongStay() || !extraStays() {
		t.Error("an argument was changed")
	}
	for i, answer := range answers {
		if fmt.Sprint(answer) != befores[i] {
			t.Errorf("a later call changed %s to %v", befores[i], answer)
		}
		if !isNew(answer, append(slices.Clone(answers[:i]), answers[i+1:]...)...) {
			t.Errorf("%s shares memory with a later answer", befores[i])
		}
	}
}
