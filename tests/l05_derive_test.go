package tests

import (
	"fmt"
	"reflect"
	"slices"
	"strings"
	"testing"

	"loop.example/g00023/impl"
)

// A made derivation: its text, written out line by line, and the addresses that follow from it.
type made struct {
	drv     impl.Drv
	text    string
	address string
	paths   []string
}

// making gives lists that are empty as nil.
func making(d impl.Drv, lines ...string) made {
	text := strings.Join(lines, "\n") + "\n"
	content := text
	if d.Fixed != "" {
		content = "fixed " + d.Fixed + " " + d.Name
	}
	m := made{drv: d, text: text, address: impl.Address("drv", d.Name+".drv", []byte(content))}
	for _, output := range d.Outputs {
		name := d.Name
		if output != "out" {
			name = d.Name + "-" + output
		}
		m.paths = append(m.paths, impl.Address("out", name, []byte(m.address+":"+output)))
	}
	return m
}

var plainMade = making(impl.Drv{Name: "hello", Builder: "run", Outputs: []string{"out"}}, "larder 1", "name hello", "out out", `do "run"`)

const plainRecipe = `{name = "hello"; builder = "run"; }`

func sameDrv(a, b impl.Drv) bool {
	return a.Name == b.Name && a.Builder == b.Builder && a.Fixed == b.Fixed && slices.Equal(a.Outputs, b.Outputs) &&
		slices.Equal(a.Env, b.Env) && slices.Equal(a.Inputs, b.Inputs) && slices.Equal(a.Sources, b.Sources)
}

func derives(t *testing.T, src string, want ...made) impl.Answer {
	t.Helper()
	a := impl.Eval(src, shelf, 10000)
	drvs := []impl.Drv{}
	for _, m := range want {
		drvs = append(drvs, m.drv)
	}
	if !slices.EqualFunc(a.Drvs, drvs, sameDrv) {
		t.Errorf("%.400s\n derives %+v\n not     %+v", src, a.Drvs, drvs)
	}
	for _, m := range want {
		if impl.DrvText(m.drv) != m.text || impl.DrvAddress(m.drv) != m.address || !impl.DrvOk(m.drv) {
			t.Errorf("%+v\n has the text %q\n not          %q", m.drv, impl.DrvText(m.drv), m.text)
		}
		for i, output := range m.drv.Outputs {
			if impl.OutPath(m.drv, output) != m.paths[i] {
				t.Errorf("%+v: %q stands at %q, not at %q", m.drv, output, impl.OutPath(m.drv, output), m.paths[i])
			}
		}
	}
	return a
}

func TestDeriveOfWhatIsPlain(t *testing.T) {
	m := plainMade
	a := derives(t, "derive "+plainRecipe, m)
	text := fmt.Sprintf(`{builder = "run"; drv = "%s"; name = "hello"; out = "%s"; type = "derivation"; }`, m.address, m.paths[0])
	if a.Code != impl.EvOk || a.Text != text || a.Steps != 5 || a.Thrown != "" {
		t.Errorf("%s\n not %s", shown(a), text)
	}
	if !slices.Equal(a.Context, []string{m.address, m.address + "!out"}) {
		t.Errorf("%q", a.Context)
	}
	if !impl.AddressOk(m.address) || !impl.AddressOk(m.paths[0]) || m.address == m.paths[0] {
		t.Error(m.address, m.paths)
	}
	for src, want := range map[string]impl.Answer{
		"(derive " + plainRecipe + ").out":               {Text: `"` + m.paths[0] + `"`, Context: []string{m.address + "!out"}, Steps: 6},
		"(derive " + plainRecipe + ").drv":               {Text: `"` + m.address + `"`, Context: []string{m.address}, Steps: 6},
		"(derive " + plainRecipe + ").type":              {Text: `"derivation"`, Steps: 6},
		"(derive " + plainRecipe + ").name":              {Text: `"hello"`, Steps: 6},
		"names (derive " + plainRecipe + ")":             {Text: `["builder" "drv" "name" "out" "type"]`, Steps: 7},
		"seq (derive " + plainRecipe + ") 1":             {Text: "1", Steps: 9},
		"let d = derive " + plainRecipe + "; in [1 d.x]": {Code: impl.EvAttr, Steps: 10},
		"(derive " + plainRecipe + ").outputs or 1":      {Text: "1", Steps: 7},
	} {
		want.Drvs = []impl.Drv{m.drv}
		got := impl.Eval(src, nil, 100)
		if !slices.EqualFunc(got.Drvs, want.Drvs, sameDrv) {
			t.Error(src, got.Drvs)
		}
		got.Drvs = nil
		want.Drvs = nil
		if !sameAnswer(got, want) {
			t.Errorf("%s\n is  %s\n not %s", src, shown(got), shown(want))
		}
	}
	if a := impl.Eval("let d = derive "+plainRecipe+"; in 1", nil, 100); len(a.Drvs) != 0 || a.Steps != 2 {
		t.Error("what nobody looks at is derived:", shown(a))
	}
}

func TestDeriveOfEnv(t *testing.T) {
	src := `derive {
		name = "e"; builder = "a\nb\"\\"; b = 1 + 2; a = -7; yes = true; no = false; text = "x \n\"\\"; none = "";
		list = ["p" "" ("q" + "r")]; empty = []; one = ["z"]; Z = "capital"; _u = 9007199254740992; type = "t"; drv = "d"; out = "o";
	}`
	env := []impl.Pair{{Key: "Z", Value: "capital"}, {Key: "_u", Value: "9007199254740992"}, {Key: "a", Value: "-7"}, {Key: "b", Value: "3"},
		{Key: "drv", Value: "d"}, {Key: "empty", Value: ""}, {Key: "list", Value: "p  qr"}, {Key: "no", Value: ""}, {Key: "none", Value: ""},
		{Key: "one", Value: "z"}, {Key: "out", Value: "o"}, {Key: "text", Value: "x \n\"\\"}, {Key: "type", Value: "t"}, {Key: "yes", Value: "1"}}
	m := making(impl.Drv{Name: "e", Builder: "a\nb\"\\", Outputs: []string{"out"}, Env: env},
		"larder 1", "name e", "out out", `env Z "capital"`, `env _u "9007199254740992"`, `env a "-7"`, `env b "3"`, `env drv "d"`, `env empty ""`,
		`env list "p  qr"`, `env no ""`, `env none ""`, `env one "z"`, `env out "o"`, `env text "x \n\"\\"`, `env type "t"`, `env yes "1"`,
		`do "a\nb\"\\"`)
	a := derives(t, src, m)
	want := `{Z = "capital"; _u = 9007199254740992; a = -7; b = 3; builder = "a\nb\"\\"; drv = "` + m.address + `"; empty = []; list = ["p" "" "qr"]; ` +
		`name = "e"; no = false; none = ""; one = ["z"]; out = "` + m.paths[0] + `"; text = "x \n\"\\"; type = "derivation"; yes = true; }`
	if a.Text != want {
		t.Errorf("%s\n not %s", shown(a), want)
	}
}

func TestDeriveOfOutputs(t *testing.T) {
	m := making(impl.Drv{Name: "hello", Builder: "run", Outputs: []string{"doc", "lib", "out"}}, "larder 1", "name hello", "out doc", "out lib", "out out", `do "run"`)
	a := derives(t, `derive {name = "hello"; builder = "run"; outputs = ["out" "doc" "lib"]; }`, m)
	want := fmt.Sprintf(`{builder = "run"; doc = "%s"; drv = "%s"; lib = "%s"; name = "hello"; out = "%s"; outputs = ["out" "doc" "lib"]; type = "derivation"; }`,
		m.paths[0], m.address, m.paths[1], m.paths[2])
	if a.Text != want || a.Steps != 9 || !slices.Equal(a.Context, []string{m.address, m.address + "!doc", m.address + "!lib", m.address + "!out"}) {
		t.Errorf("%s\n not %s", shown(a), want)
	}
	if !strings.HasSuffix(m.paths[0], "-hello-doc") || !strings.HasSuffix(m.paths[2], "-hello") {
		t.Error(m.paths)
	}
	alone := making(impl.Drv{Name: "hello", Builder: "run", Outputs: []string{"doc"}}, "larder 1", "name hello", "out doc", `do "run"`)
	a = derives(t, `names (derive {name = "hello"; builder = "run"; outputs = ["doc"]; })`, alone)
	if a.Text != `["builder" "doc" "drv" "name" "outputs" "type"]` {
		t.Error(shown(a))
	}
	if explicit := impl.Eval(`(derive {name = "hello"; builder = "run"; outputs = ["out"]; }).drv`, nil, 100); explicit.Text != `"`+plainMade.address+`"` {
		t.Error(shown(explicit))
	}
}

// Of two of one name, an output wins over type, type over drv, and these over what was there.
func TestDeriveOfOutputsNamedAsOthers(t *testing.T) {
	m := making(impl.Drv{Name: "n", Builder: "b", Outputs: []string{"builder", "drv", "name", "outputs", "type"}},
		"larder 1", "name n", "out builder", "out drv", "out name", "out outputs", "out type", `do "b"`)
	a := derives(t, `derive {name = "n"; builder = "b"; outputs = ["type" "drv" "name" "builder" "outputs"]; }`, m)
	want := fmt.Sprintf(`{builder = "%s"; drv = "%s"; name = "%s"; outputs = "%s"; type = "%s"; }`, m.paths[0], m.paths[1], m.paths[2], m.paths[3], m.paths[4])
	if a.Text != want {
		t.Errorf("%s\n not %s", shown(a), want)
	}
}

func TestDeriveOfFixed(t *testing.T) {
	word := impl.Word32(12345)
	m := making(impl.Drv{Name: "src", Builder: "get", Outputs: []string{"out"}, Fixed: word, Env: []impl.Pair{{Key: "url", Value: "x"}}},
		"larder 1", "name src", "out out", "fixed "+word, `env url "x"`, `do "get"`)
	derives(t, `derive {name = "src"; builder = "get"; fixed = "`+word+`"; url = "x"; }`, m)
	derives(t, `(derive {name = "src"; builder = "get"; fixed = "`+word+`"; url = "x"; outputs = ["out"]; }).out`, m)
	derives(t, `derive {name = "hello"; builder = "run"; fixed = ""; }`, plainMade)
	// Of two with one address, the first one stays.
	a := derives(t, `map (b: (derive {name = "src"; builder = b; fixed = "`+word+`"; url = "x"; }).drv) ["get" "other"]`, m)
	if a.Text != fmt.Sprintf(`["%s" "%s"]`, m.address, m.address) || !slices.Equal(a.Context, []string{m.address}) {
		t.Error(shown(a))
	}
}

func TestDeriveOfInputsAndSources(t *testing.T) {
	lib := making(impl.Drv{Name: "lib", Builder: "l", Outputs: []string{"dev", "out"}}, "larder 1", "name lib", "out dev", "out out", `do "l"`)
	tool := making(impl.Drv{Name: "tool", Builder: "t", Outputs: []string{"out"}}, "larder 1", "name tool", "out out", `do "t"`)
	lets := `let lib = derive {name = "lib"; builder = "l"; outputs = ["out" "dev"]; }; tool = derive {name = "tool"; builder = "t"; }; in `
	builder := "use " + tool.paths[0] + "/bin " + lib.paths[0]
	uses := []impl.Uses{{Drv: lib.address, Output: "dev"}, {Drv: lib.address, Output: "out"}, {Drv: tool.address, Output: "out"}}
	if tool.address < lib.address {
		uses = []impl.Uses{{Drv: tool.address, Output: "out"}, {Drv: lib.address, Output: "dev"}, {Drv: lib.address, Output: "out"}}
	}
	lines := []string{"larder 1", "name app", "out out"}
	for _, use := range uses {
		lines = append(lines, "in "+use.Drv+" "+use.Output)
	}
	lines = append(lines, "src "+lib.address, `env both "`+lib.paths[1]+" "+lib.paths[1]+`"`, `env plan "`+lib.address+`"`, `do "`+builder+`"`)
	app := making(impl.Drv{Name: "app", Builder: builder, Outputs: []string{"out"}, Inputs: uses, Sources: []string{lib.address},
		Env: []impl.Pair{{Key: "both", Value: lib.paths[1] + " " + lib.paths[1]}, {Key: "plan", Value: lib.address}}}, lines...)
	a := derives(t, lets+`(derive {name = "app"; builder = "use " + tool.out + "/bin " + lib.dev; both = [lib.out lib.out]; plan = lib.drv; }).out`, tool, lib, app)
	if a.Text != `"`+app.paths[0]+`"` || !slices.Equal(a.Context, []string{app.address + "!out"}) {
		t.Error(shown(a))
	}
	a = derives(t, lets+`derive {name = "hello"; builder = "run"; zlib = ""; }`, making(impl.Drv{Name: "hello", Builder: "run", Outputs: []string{"out"}, Env: []impl.Pair{{Key: "zlib"}}},
		"larder 1", "name hello", "out out", `env zlib ""`, `do "run"`))
	if a.Code != impl.EvOk {
		t.Error(shown(a))
	}
}

// Wherever a text stands in a derivation, its context goes into it.
func TestDeriveTakesContextsFromAllItsTexts(t *testing.T) {
	lets := "let c = part (derive " + plainRecipe + ").out 0 0; d = part (derive " + plainRecipe + ").drv 0 0; w = \"" + impl.Word32(7) + "\"; in "
	for _, set := range []string{
		`{name = "n" + §; builder = "b"; }`,
		`{name = "n"; builder = § + "b"; }`,
		`{name = "n"; builder = "b"; outputs = ["a" ("out" + §)]; }`,
		`{name = "n"; builder = "b"; outputs = [("out" + §) "a"]; }`,
		`{name = "n"; builder = "b"; fixed = w + §; }`,
		`{name = "n"; builder = "b"; fixed = §; }`,
		`{name = "n"; builder = "b"; any = §; }`,
		`{name = "n"; builder = "b"; any = ["x" §]; }`,
		`{name = "n"; builder = "b"; any = text §; }`,
	} {
		for piece, wants := range map[string]impl.Drv{
			"c":       {Inputs: []impl.Uses{{Drv: plainMade.address, Output: "out"}}},
			"d":       {Sources: []string{plainMade.address}},
			"(c + d)": {Inputs: []impl.Uses{{Drv: plainMade.address, Output: "out"}}, Sources: []string{plainMade.address}},
			`""`:      {},
		} {
			a := impl.Eval(lets+"derive "+strings.ReplaceAll(set, "§", piece), nil, 1000)
			if a.Code != impl.EvOk || len(a.Drvs) == 0 {
				t.Error(set, piece, shown(a))
				continue
			}
			got := a.Drvs[len(a.Drvs)-1]
			if got.Name != "n" || !slices.Equal(got.Inputs, wants.Inputs) || !slices.Equal(got.Sources, wants.Sources) {
				t.Errorf("%s with %s: %+v", set, piece, got)
			}
		}
	}
}

func TestContextsOfTexts(t *testing.T) {
	other := making(impl.Drv{Name: "other", Builder: "run", Outputs: []string{"out"}}, "larder 1", "name other", "out out", `do "run"`)
	a, b := plainMade.address+"!out", other.address+"!out"
	both := []string{a, b}
	slices.Sort(both)
	lets := `let a = (derive ` + plainRecipe + `).out; b = (derive {name = "other"; builder = "run"; }).out; in `
	for src, context := range map[string][]string{
		`a`: {a}, `b`: {b}, `"x"`: {}, `[a]`: {a}, `[a b]`: both, `[b a a]`: both, `{x = a; y = [b]; }`: both, `a + b`: both, `b + a`: both, `a + a`: {a},
		`"x" + a`: {a}, `a + "x"`: {a}, `part a 0 0`: {a}, `part a 3 5`: {a}, `part (a + b) 0 1`: both, `text a`: {a}, `join a ["x" "y"]`: {a},
		`join a []`: {a}, `join a ["x"]`: {a}, `join "" [a b]`: both, `join a [b]`: both, `join "x" [a "y" a]`: {a}, `join "x" []`: {},
		`size a`: {}, `a == b`: {}, `a < b`: {}, `[(x: a)]`: {}, `kind a`: {}, `names (toSet [{name = part a 0 0 + "w"; value = 1; }])`: {},
		`toSet [{name = part a 0 0 + "w"; value = b; }]`: {b}, `sort [a]`: {a}, `head [a b]`: {a}, `tail [a b]`: {b}, `filter (x: x == a) [a b]`: {a},
		`without {x = a; y = b; } [("x" + part a 0 0)]`: {b}, `map (x: x) [a]`: {a}, `mapSet (n: v: n) {x = a; }`: {}, `seq a b`: {b}, `deep a b`: {b},
		`fold (x: y: x + y) "" [a b]`: both, `if a == a then b else a`: {b}, `a + "" == part a 0 100`: {}, `number (part a 0 0 + "7")`: {},
		`import (part a 0 0 + "seven")`: {}, `(x: x) a`: {a}, `{x = a; }.x`: {a}, `{x = a; } // {x = b; }`: {b}, `[a] ++ [b]`: both,
	} {
		got := impl.Eval(lets+src, shelf, 1000)
		if got.Code != impl.EvOk || !slices.Equal(got.Context, context) {
			t.Errorf("%s: %s\n not %q", src, shown(got), context)
		}
	}
	for src, want := range map[string]string{
		`a == part a 0 100 + ""`: "true", `part a 0 0 == ""`: "true", `a == text a`: "true", `part a 0 0 < "a"`: "true",
	} {
		if got := impl.Eval(lets+src, shelf, 1000); got.Text != want {
			t.Error(src, shown(got))
		}
	}
	if got := impl.Eval(lets+`throw ("x" + part a 0 0)`, nil, 1000); got.Code != impl.EvThrow || got.Thrown != "x" || len(got.Context) != 0 || len(got.Drvs) != 1 {
		t.Error(shown(got))
	}
}

// Equal ones stay in their order: the contexts tell them apart.
func TestSortLeavesEqualOnesInTheirOrder(t *testing.T) {
	lets := `let e = n: part (derive {name = n; builder = "b"; }).out 0 0; in `
	list := `sort [("y" + e "n3") ("x" + e "n0") ("y" + e "n4") ("x" + e "n1") ("w" + e "n6") ("y" + e "n5") ("x" + e "n2")]`
	order := []int{6, 0, 1, 2, 3, 4, 5}
	for at, number := range order {
		got := impl.Eval(fmt.Sprintf("%sat (%s) %d", lets, list, at), nil, 1000)
		if len(got.Context) != 1 || !strings.HasSuffix(got.Context[0], fmt.Sprintf("-n%d.drv!out", number)) {
			t.Error(at, shown(got))
		}
	}
}

func TestDeriveOrder(t *testing.T) {
	throws(t, []worthRow{
		{`derive {name = throw "n"; builder = throw "b"; }`, "n", 6},
		{`derive {name = "n"; builder = throw "b"; outputs = throw "o"; }`, "b", 7},
		{`derive {builder = throw "b"; outputs = throw "o"; }`, "b", 6},
		{`derive {name = throw "n"; }`, "n", 6},
		{`derive {name = "n"; builder = "b"; outputs = throw "o"; fixed = throw "f"; }`, "o", 8},
		{`derive {name = "n"; builder = "b"; outputs = [(throw "o") 1]; fixed = throw "f"; }`, "o", 9},
		{`derive {name = "n"; builder = "b"; outputs = []; fixed = throw "f"; a = throw "a"; }`, "f", 9},
		{`derive {name = "n"; builder = "b"; a = throw "a"; Z = throw "z"; b = throw "b"; }`, "z", 8},
		{`derive {name = "n"; builder = "b"; b = throw "b"; a = ["x" (throw "l")]; }`, "l", 10},
		{`derive {name = ""; builder = "b"; a = throw "a"; }`, "a", 8},
		{`derive {name = "n"; builder = "\t"; a = throw "a"; }`, "a", 8},
		{`derive {name = "n"; builder = "b"; outputs = ["a" "b"]; fixed = "x"; a = throw "a"; }`, "a", 12},
		{`derive (throw "s")`, "s", 5},
	})
	faults(t, []faultRow{
		{`derive {}`, impl.EvDrv, 3},
		{`derive {name = "n"; outputs = throw "o"; }`, impl.EvDrv, 4},
		{`derive {builder = "b"; outputs = throw "o"; }`, impl.EvDrv, 4},
		{`derive {name = 1; builder = throw "b"; }`, impl.EvDrv, 4},
		{`derive {name = "n"; builder = 1; outputs = throw "o"; }`, impl.EvDrv, 5},
		{`derive {name = "n"; builder = null; }`, impl.EvDrv, 5},
		{`derive {name = ["n"]; builder = "b"; }`, impl.EvDrv, 4},
		{`derive {name = "n"; builder = "b"; outputs = "out"; fixed = throw "f"; }`, impl.EvDrv, 6},
		{`derive {name = "n"; builder = "b"; outputs = [1 (throw "o")]; }`, impl.EvDrv, 7},
		{`derive {name = "n"; builder = "b"; outputs = ["a" "a" (throw "o")]; }`, impl.EvDrv, 8},
		{`derive {name = "n"; builder = "b"; outputs = ["let" (throw "o")]; }`, impl.EvDrv, 7},
		{`derive {name = "n"; builder = "b"; outputs = ["1a" (throw "o")]; }`, impl.EvDrv, 7},
		{`derive {name = "n"; builder = "b"; outputs = ["" (throw "o")]; }`, impl.EvDrv, 7},
		{`derive {name = "n"; builder = "b"; fixed = 1; a = throw "a"; }`, impl.EvDrv, 6},
		{`derive {name = "n"; builder = "b"; a = null; b = throw "b"; }`, impl.EvDrv, 6},
		{`derive {name = "n"; builder = "b"; a = {}; b = throw "b"; }`, impl.EvDrv, 6},
		{`derive {name = "n"; builder = "b"; a = x: x; b = throw "b"; }`, impl.EvDrv, 6},
		{`derive {name = "n"; builder = "b"; a = [1 (throw "l")]; b = throw "b"; }`, impl.EvDrv, 7},
		{`derive {name = "n"; builder = "b"; a = [["x"]]; }`, impl.EvDrv, 7},
		{`derive 1`, impl.EvType, 3},
		{`derive []`, impl.EvType, 3},
		{`derive (x: x)`, impl.EvType, 3},
		{`derive nope`, impl.EvName, 3},
	})
}

func TestDeriveOfNoDrvThatCanBe(t *testing.T) {
	long := strings.Repeat("n", 56)
	big := strings.Repeat("x", 4000)
	for _, set := range []string{
		`{name = "` + long + `"; builder = "b"; }`,
		`{name = "n"; builder = ""; }`,
		`{name = "n"; builder = "` + big + `"; }`,
		`{name = "n"; builder = "b"; a = "` + big + `"; }`,
		`{name = "n"; builder = "b"; a = ["` + big[:1999] + `" "` + big[:2000] + `"]; }`,
		`{name = "n"; builder = "b"; outputs = ["a" "b" "c" "d" "e"]; }`,
		`{name = "n"; builder = "b"; outputs = ["a-b" "_"]; }`,
		`{name = "n"; builder = "b"; fixed = "` + impl.Word32(1<<63) + `"; }`,
		`{name = "+n.1-2_3"; builder = "b\n"; a = "\n"; }`,
		`{name = "n"; builder = "b"; a = "é"; }`,
	} {
		if a := impl.Eval("derive "+set, nil, 100); a.Code != impl.EvOk || len(a.Drvs) != 1 || !impl.DrvOk(a.Drvs[0]) {
			t.Errorf("%.200s: %s", set, shown(a))
		}
	}
	for _, set := range []string{
		`{name = ""; builder = "b"; }`,
		`{name = ".n"; builder = "b"; }`,
		`{name = "a b"; builder = "b"; }`,
		`{name = "a/b"; builder = "b"; }`,
		`{name = "n'"; builder = "b"; }`,
		`{name = "` + long + `n"; builder = "b"; }`,
		`{name = "` + long + `nnnnn"; builder = "b"; }`,
		`{name = "n"; builder = "a\tb"; }`,
		`{name = "n"; builder = "b"; a = "\t"; }`,
		`{name = "n"; builder = "b"; a = ["x" "\t"]; }`,
		`{name = "n"; builder = "b"; a = ["` + big[:2000] + `" "` + big[:2000] + `"]; }`,
		`{name = "n"; builder = "b"; a = ["` + big + `" ""]; }`,
		`{name = "n"; builder = "b"; outputs = []; }`,
		`{name = "n"; builder = "b"; outputs = ["a" "b" "c" "d" "e" "f"]; }`,
		`{name = "n"; builder = "b"; outputs = ["a'"]; }`,
		`{name = "n"; builder = "b"; fixed = "x"; }`,
		`{name = "n"; builder = "b"; fixed = "` + strings.Repeat("z", 13) + `"; }`,
		`{name = "n"; builder = "b"; fixed = "` + impl.Word32(5) + `"; outputs = ["doc"]; }`,
		`{name = "n"; builder = "b"; fixed = "` + impl.Word32(5) + `"; outputs = ["doc" "out"]; }`,
		`{name = "n"; builder = "b"; a' = ""; }`,
	} {
		if a := impl.Eval("derive "+set, nil, 100); a.Code != impl.EvDrv || len(a.Drvs) != 0 || a.Text != "" {
			t.Errorf("%.200s: %s", set, shown(a))
		}
	}
}

func TestDrvsOfAnAnswer(t *testing.T) {
	named := func(name string) made {
		return making(impl.Drv{Name: name, Builder: "b", Outputs: []string{"out"}}, "larder 1", "name "+name, "out out", `do "b"`)
	}
	x, y := named("x"), named("y")
	lets := `let d = n: derive {name = n; builder = "b"; }; in `
	derives(t, lets+`[(d "x").out (d "y").out (d "x").out]`, x, y)
	derives(t, lets+`{a = d "y"; b = d "x"; c = d "y"; }`, y, x)
	derives(t, lets+`let a = d "x"; in [a a a.out]`, x)
	derives(t, lets+`seq (d "y") (d "x")`, y, x)
	derives(t, lets+`length [(d "x")]`)
	derives(t, lets+`[(d "x") (throw "!") (d "y")]`, x)
	derives(t, lets+`[(d "x") (d "y") nope]`, x, y)
	derives(t, lets+`[(d "x") (d "") (d "y")]`, x)
	z := making(impl.Drv{Name: "z", Builder: x.paths[0], Outputs: []string{"out"}, Inputs: []impl.Uses{{Drv: x.address, Output: "out"}}},
		"larder 1", "name z", "out out", "in "+x.address+" out", `do "`+x.paths[0]+`"`)
	derives(t, lets+`derive {name = "z"; builder = (d "x").out; }`, x, z)
	if a := impl.Eval(lets+`[(d "x") (d "y")]`, nil, 12); a.Code != impl.EvBudget || len(a.Drvs) != 1 {
		t.Error(shown(a))
	}
}

// A set that is too great is no value, and what is not done is not told.
func TestDeriveOfVeryManyNames(t *testing.T) {
	for many, code := range map[int]int64{1995: impl.EvOk, 1996: impl.EvRange, 1998: impl.EvRange} {
		src := `length (names (derive (mapSet (n: v: if n == "name" then "n" else "b") ` + inheriting("a", many)[:len(inheriting("a", many))-3] + " name builder; })))"
		a := impl.Eval(src, nil, 50000)
		if a.Code != code || code == impl.EvOk && (a.Text != "2000" || len(a.Drvs) != 1 || len(a.Drvs[0].Env) != 1995) || code != impl.EvOk && len(a.Drvs) != 0 {
			t.Error(many, shown(a))
		}
	}
}

func TestDeriveOfVeryManyInputs(t *testing.T) {
	numbers := ""
	for n := range 2000 {
		numbers += fmt.Sprintf(" %d", n)
	}
	for use, count := range map[string]func(d impl.Drv) int{"out": func(d impl.Drv) int { return len(d.Inputs) }, "drv": func(d impl.Drv) int { return len(d.Sources) }} {
		lets := `let e = n: part (derive {name = text n; builder = ""; }).` + use + ` 0 0; all = join "" (map e [` + numbers + `]); in `
		if a := impl.Eval(lets+`names (derive {name = "n"; builder = all; })`, nil, 50000); a.Code != impl.EvOk || len(a.Drvs) != 2001 || count(a.Drvs[2000]) != 2000 {
			t.Error(use, shown(a))
		}
		if a := impl.Eval(lets+`names (derive {name = "n"; builder = all; a = e 2000; })`, nil, 50000); a.Code != impl.EvDrv || len(a.Drvs) != 2001 {
			t.Error(use, shown(a))
		}
	}
}

func TestDrvsAreNewMemory(t *testing.T) {
	src := `let a = derive {name = "a"; builder = "b"; outputs = ["dev" "out"]; }; in derive {name = "z"; builder = a.out + a.drv; x = [a.dev]; y = a.out; outputs = ["doc"]; }`
	first, second := impl.Eval(src, nil, 1000), impl.Eval(src, nil, 1000)
	if len(first.Drvs) != 2 || len(first.Context) == 0 || !reflect.DeepEqual(first, second) {
		t.Fatal(shown(first))
	}
	for _, d := range first.Drvs {
		clear(d.Outputs[:cap(d.Outputs)])
		clear(d.Env[:cap(d.Env)])
		clear(d.Inputs[:cap(d.Inputs)])
		clear(d.Sources[:cap(d.Sources)])
		if !reflect.DeepEqual(second, impl.Eval(src, nil, 1000)) {
			t.Error("an answer shares memory")
		}
	}
	clear(first.Context[:cap(first.Context)])
	clear(first.Drvs[:cap(first.Drvs)])
	if !reflect.DeepEqual(second, impl.Eval(src, nil, 1000)) {
		t.Error("an answer shares memory")
	}
	third := impl.Eval(src, nil, 1000)
	clear(third.Drvs[1].Outputs[:cap(third.Drvs[1].Outputs)])
	clear(third.Drvs[1].Inputs[:cap(third.Drvs[1].Inputs)])
	clear(third.Context[:cap(third.Context)])
	if !reflect.DeepEqual(third.Drvs[0], second.Drvs[0]) || !slices.Equal(third.Drvs[1].Sources, second.Drvs[1].Sources) || !slices.Equal(third.Drvs[1].Env, second.Drvs[1].Env) {
		t.Error("two lists of one answer share memory")
	}
}
