package tests

import (
	"fmt"
	"math"
	"regexp"
	"slices"
	"strconv"
	"strings"
	"testing"

	"loop.example/g00023/impl"
)

var (
	optionForm = regexp.MustCompile(`\A(\S+) (\S+)( =(?: (.*?))?)??(?: needs (.*))?\z`)
	defForm    = regexp.MustCompile(`\A(\S+) :=(?: (.*?))? @(-?[0-9]+)(?: \? (\S+))?\z`)
)

// modulesOf makes "[web < base log] net.on bool = false needs a b; port int; port := 80 @100 ? net.on" one module that imports two, declares two options and defines one.
func modulesOf(row string) []impl.Module {
	ms := []impl.Module{}
	for _, piece := range strings.Split(row, "[")[1:] {
		head, body, _ := strings.Cut(piece, "]")
		name, imports, _ := strings.Cut(head, "<")
		m := impl.Module{Name: strings.TrimSpace(name), Imports: strings.Fields(imports)}
		for _, line := range strings.Split(body, ";") {
			line = strings.TrimSpace(line)
			if parts := defForm.FindStringSubmatch(line); parts != nil {
				rank, _ := strconv.ParseInt(parts[3], 10, 64)
				m.Defs = append(m.Defs, impl.Def{Option: parts[1], Value: parts[2], Rank: rank, When: parts[4]})
			} else if parts := optionForm.FindStringSubmatch(line); parts != nil {
				m.Options = append(m.Options, impl.Option{Name: parts[1], Type: parts[2], Given: parts[3] != "", Default: parts[4], Needs: strings.Fields(parts[5])})
			} else if line != "" {
				panic("no line of a module: " + line)
			}
		}
		ms = append(ms, m)
	}
	return ms
}

func TestModulesOfTheseTests(t *testing.T) {
	got := modulesOf("[web < base log] net.on bool = false needs a b; port int; users list =; mode fast|safe = safe; port := 80 @100 ? net.on; users := a b @7; users := @1 [x]")
	want := []impl.Module{{
		Name: "web", Imports: []string{"base", "log"},
		Options: []impl.Option{
			{Name: "net.on", Type: "bool", Default: "false", Given: true, Needs: []string{"a", "b"}}, {Name: "port", Type: "int"},
			{Name: "users", Type: "list", Given: true}, {Name: "mode", Type: "fast|safe", Default: "safe", Given: true},
		},
		Defs: []impl.Def{{Option: "port", Value: "80", Rank: 100, When: "net.on"}, {Option: "users", Value: "a b", Rank: 7}, {Option: "users", Rank: 1}},
	}, {Name: "x"}}
	if !same(got, want) {
		t.Errorf("%+v", got)
	}
}

// modulesCan holds an answer against plain words and against what is said here.
func modulesCan(t *testing.T, what string, ms []impl.Module, want bool) {
	t.Helper()
	if plain := plainModulesOk(ms); plain != want {
		t.Errorf("%s: plain words: %v", what, plain)
	}
	if got := impl.ModulesOk(ms); got != want {
		t.Errorf("%s: %v", what, got)
	}
	if want {
		return
	}
	start := []string{"m", "none"}
	if names, c := impl.Imported(ms, start), impl.Merge(ms, start); len(names)+len(c.Faults)+len(c.Settings) > 0 {
		t.Errorf("%s: of what can't be: %q, %v", what, names, c)
	}
}

// oneOption is a list of one module in which one option alone stands, after a change.
func oneOption(change func(o *impl.Option)) []impl.Module {
	o := impl.Option{Name: "on", Type: "bool", Default: "true", Given: true, Needs: []string{"a", "b.c"}}
	change(&o)
	return []impl.Module{{Name: "m", Options: []impl.Option{o}}}
}

func oneDef(change func(d *impl.Def)) []impl.Module {
	d := impl.Def{Option: "on", Value: "true", Rank: 100, When: "b.c"}
	change(&d)
	return []impl.Module{{Name: "m", Defs: []impl.Def{d}}}
}

func TestModulesOk(t *testing.T) {
	modulesCan(t, "none", nil, true)
	modulesCan(t, "the least", modulesOf("[m]"), true)
	modulesCan(t, "an option", oneOption(func(*impl.Option) {}), true)
	modulesCan(t, "a definition", oneDef(func(*impl.Def) {}), true)
	modulesCan(t, "several", modulesOf("[a < b c] x bool; x int = 7; y.z list = a b; x := 12 @1 [b < a b] x text = [b.c] x a|b = b; q := 0 @1000 ? x"), true)
	modulesCan(t, "the zero value", []impl.Module{{}}, false)
	modulesCan(t, "the zero value of an option", []impl.Module{{Name: "m", Options: []impl.Option{{}}}}, false)
	modulesCan(t, "the zero value of a definition", []impl.Module{{Name: "m", Defs: []impl.Def{{}}}}, false)
	for _, row := range []string{"[a] [a]", "[b] [a]", "[a] [c] [b]", "[a] [b] [b]", "[a] [.b]", "[] [a]", "[m] [m] x bool", "[b] [B]"} {
		modulesCan(t, row, modulesOf(row), false)
	}
	for _, row := range []string{"[B] [a] [b]", "[a] [a-] [a.b] [ab]", "[+] [-] [_]"} {
		modulesCan(t, row, modulesOf(row), true)
	}
}

func parts(n int, part string) string {
	return strings.TrimSuffix(strings.Repeat(part+".", n), ".")
}

// optionNames says of texts whether they are names of options.
func optionNames() map[string]bool {
	long := strings.Repeat("n", 60)
	names := map[string]bool{
		"a": true, "a.b": true, "A.9.-._.+": true, "-": true, "0": true, "true": true, "bool.int": true, "--": true,
		parts(7, "p"): true, parts(8, "p"): true, parts(9, "p"): false, parts(20, "p"): false,
		long: true, long + "n": false, parts(8, long): true, parts(9, long): false, "a." + long: true, "a." + long + "n": false, long + "n.a": false,
		parts(7, long) + "." + long + "n": false, strings.Repeat("n", 500): false,
		"": false, ".": false, "..": false, ".a": false, "a.": false, "a..b": false, "a.b.": false, ".a.b": false, "a.b..c": false, "........": false,
		"a b": false, " a": false, "a ": false, "a. b": false, "a|b": false, "a/b": false, "a:b": false, "a,b": false, "a.b c": false, "é": false, "a.é": false,
		"a\n": false, "a.\n": false, "\x00": false, "a\xff": false,
	}
	for _, b := range allBytes() {
		isPart := plainNames60.MatchString("a"+string([]byte{b})) && b != '.'
		names[string([]byte{b})] = isPart
		names["q"+string([]byte{b})] = isPart
		names["q."+string([]byte{b})] = isPart
		names["q"+string([]byte{b})+"q"] = isPart || b == '.'
	}
	return names
}

func TestNamesOfOptions(t *testing.T) {
	for name, want := range optionNames() {
		modulesCan(t, fmt.Sprintf("the Name %q", name), oneOption(func(o *impl.Option) { o.Name = name }), want)
		modulesCan(t, fmt.Sprintf("the Need %q", name), oneOption(func(o *impl.Option) { o.Needs = []string{name} }), want)
		modulesCan(t, fmt.Sprintf("a definition of %q", name), oneDef(func(d *impl.Def) { d.Option = name }), want)
		modulesCan(t, fmt.Sprintf("the When %q", name), oneDef(func(d *impl.Def) { d.When = name }), want || name == "")
	}
}

// In the name of a module a dot parts nothing.
func TestNamesOfModules(t *testing.T) {
	long := strings.Repeat("n", 60)
	for name, want := range map[string]bool{
		"a": true, "a.b": true, "a..b": true, "a.": true, "-": true, parts(20, "p"): true, long: true, long + "n": false,
		"": false, ".a": false, ".": false, "a b": false, "a/b": false, "é": false, "a\n": false, "\x00": false, "a|b": false,
	} {
		modulesCan(t, fmt.Sprintf("the module %q", name), []impl.Module{{Name: name}}, want)
		modulesCan(t, fmt.Sprintf("the import %q", name), []impl.Module{{Name: "m", Imports: []string{name}}}, want)
	}
}

func TestTypes(t *testing.T) {
	long := strings.Repeat("w", 60)
	many := []string{}
	for i := range 3000 {
		many = append(many, fmt.Sprint(i))
	}
	for kind, want := range map[string]bool{
		"bool": true, "int": true, "text": true, "list": true, "a|b": true, "b|a": true, "a|b|c": true, "a.b|a..": true,
		"bool|int": true, "text|list": true, "list|x": true, "true|false": true, "0|1": true, "-|+|_": true, "bool|bool.": true,
		long + "|" + long[:59]: true, long + "w|a": false, "a|" + long + "w": false, strings.Join(many, "|"): true, strings.Join(many, "|") + "|7": false,
		"": false, "a": false, "x.y": false, "Bool": false, "bool ": false, " bool": false, "bools": false, "number": false, "string": false, "set": false, "choice": false,
		"|": false, "a|": false, "|a": false, "a||b": false, "||": false, "a|b|": false, "|a|b": false, "a|a": false, "a|b|a": false, "a|b|b": false, "bool|bool": false, "int|": false,
		"a |b": false, "a| b": false, "a|.b": false, ".a|b": false, "a|b c": false, "a,b": false, "a/b": false, "a|é": false, "a|b\n": false, "a|\x00": false,
	} {
		modulesCan(t, fmt.Sprintf("the Type %.100q", kind), []impl.Module{{Name: "m", Options: []impl.Option{{Name: "x", Type: kind}}}}, want)
	}
}

// valuesAre says of values whether they are some of that Type.
func valuesAre(t *testing.T, kind string, want bool, values ...string) {
	t.Helper()
	for _, value := range values {
		if plain := plainValueOk(kind, value); plain != want {
			t.Errorf("plain words: %.80q of the Type %q: %v", value, kind, plain)
		}
		if got := impl.ValueOk(kind, value); got != want {
			t.Errorf("%.80q of the Type %q: %v", value, kind, got)
		}
	}
}

func TestValueOk(t *testing.T) {
	long, text := strings.Repeat("w", 60), strings.Repeat("x", 4000)
	valuesAre(t, "bool", true, "true", "false")
	valuesAre(t, "bool", false, "", "True", "FALSE", "yes", "no", "0", "1", "true ", " true", "true false", "true|false", "truefalse", "tru", "bool", "null", "\x00")
	valuesAre(t, "int", true, "0", "1", "-1", "9", "-9", "10", "-10", "100", "-7", "80", "999999999999999", "-999999999999999", "100000000000000", "-100000000000000")
	valuesAre(t, "int", false, "", "-", "-0", "00", "01", "-01", "-00", "000", "+", "+1", "+0", "--1", "-+1", "1-", "1.0", "1e3", "0x1", "1_0", " 1", "1 ", "1 2", "- 1", "x", "1x", "x1", "true", "¹", "٣",
		"1000000000000000", "-1000000000000000", "9999999999999999", "-9999999999999999", "0000000000000000", "000000000000001", strings.Repeat("9", 5000), "-"+strings.Repeat("0", 5000), "1\n", "\x001")
	valuesAre(t, "text", true, "", "a", "a b", " ", "  ", "true", "01", "\x00\xff\n", "é", text, text[:3999], strings.Repeat("\xff", 4000))
	valuesAre(t, "text", false, text+"x", text+"\x00", strings.Repeat("é", 2001))
	valuesAre(t, "text", true, strings.Repeat("é", 2000))
	valuesAre(t, "list", true, "", "a", "a b", "a b c", "b a", "a a", "ann web log", "a.b -", "true", "0 1 2", long, long+" "+long, strings.TrimSpace(strings.Repeat("word ", 3000)), strings.TrimSpace(strings.Repeat(long+" ", 1000)))
	valuesAre(t, "list", false, " ", "  ", " a", "a ", "a  b", "a   b", " a b", "a b ", ".a", "a .b", "a/b", "a,b", "a\tb", "a\nb", "a b\n", "é", "a|b", long+"w", "a "+long+"w", long+"w a")
	valuesAre(t, "a|b", true, "a", "b")
	valuesAre(t, "a|b", false, "", "c", "A", "ab", "a|b", "|", "a ", " b", "a b", "aa")
	valuesAre(t, "fast|safe|off", true, "fast", "safe", "off")
	valuesAre(t, "fast|safe|off", false, "", "fas", "fasts", "safe|off", "on")
	valuesAre(t, "bool|int", true, "bool", "int")
	valuesAre(t, "bool|int", false, "true", "false", "0", "1", "text")
	valuesAre(t, "true|false", true, "true", "false")
	valuesAre(t, "list|"+long, true, "list", long)
	valuesAre(t, "a.b|a", true, "a.b", "a")
	for _, kind := range []string{"", "a", "Bool", "bool ", "texts", "a|a", "a|b|a", "a|", "|a", "|", "a||b", "a |b", "a|.b", "a|" + long + "w", "number", "bool|bool"} {
		valuesAre(t, kind, false, "", "a", "b", "true", "false", "0", "bool", kind, long+"w", ".b")
	}
}

func TestValueOkOfAllShortTexts(t *testing.T) {
	seen := map[string]int{}
	see := func(kind, value string) {
		want := plainValueOk(kind, value)
		if got := impl.ValueOk(kind, value); got != want {
			t.Fatalf("%q of the Type %q: %v, not %v", value, kind, got, want)
		}
		if want {
			seen[kind]++
		}
	}
	for kind, bytes := range map[string]string{"int": "-+019 ", "list": "a. -|", "bool": "true", "text": "a\n", "aa|bb": "ab|", "a.a|a|-": "a.-|"} {
		everyText(bytes, 5, func(value string) { see(kind, value) })
	}
	everyText("ab|.", 5, func(kind string) {
		everyText("ab|", 2, func(value string) { see(kind, value) })
	})
	for _, b := range allBytes() {
		for _, kind := range []string{"int", "list", "bool", "text", "a|b"} {
			for _, value := range []string{"%", "a%", "%a", "1%", "%1", "true%", "a %", "a%b"} {
				see(kind, strings.Replace(value, "%", string([]byte{b}), 1))
			}
		}
	}
	for size := range 40 {
		for _, digits := range []string{strings.Repeat("9", size), "1" + strings.Repeat("0", size), strings.Repeat("0", size)} {
			for _, ahead := range []string{"", "-", "+", "--", " "} {
				see("int", ahead+digits)
			}
		}
	}
	if seen["int"] < 400 || seen["list"] < 500 || seen["text"] < 500 || seen["a|b"] < 2 || seen["bool"] < 1 || seen["aa|bb"] < 2 || seen["a.a|a|-"] != 3 {
		t.Error(seen)
	}
}

func TestDefaults(t *testing.T) {
	long := strings.Repeat("x", 4001)
	for _, r := range []struct {
		kind, value string
		given, want bool
	}{
		{"bool", "true", true, true}, {"bool", "false", true, true}, {"bool", "", true, false}, {"bool", "yes", true, false}, {"bool", "", false, true}, {"bool", "true", false, false}, {"bool", "false", false, false},
		{"int", "0", true, true}, {"int", "-7", true, true}, {"int", "", true, false}, {"int", "01", true, false}, {"int", "1000000000000000", true, false}, {"int", "", false, true}, {"int", "0", false, false},
		{"text", "", true, true}, {"text", "a b", true, true}, {"text", long[1:], true, true}, {"text", long, true, false}, {"text", "", false, true}, {"text", "a", false, false}, {"text", " ", false, false},
		{"list", "", true, true}, {"list", "a b", true, true}, {"list", "a  b", true, false}, {"list", "", false, true}, {"list", "a", false, false},
		{"a|b", "a", true, true}, {"a|b", "b", true, true}, {"a|b", "c", true, false}, {"a|b", "", true, false}, {"a|b", "a|b", true, false}, {"a|b", "", false, true}, {"a|b", "a", false, false},
	} {
		modulesCan(t, fmt.Sprintf("%.60v", r), oneOption(func(o *impl.Option) { o.Type, o.Default, o.Given, o.Needs = r.kind, r.value, r.given, nil }), r.want)
	}
}

// manyNames ascend.
func manyNames(n int) []string {
	names := []string{}
	for i := range n {
		names = append(names, fmt.Sprintf("n%04d", i))
	}
	return names
}

func TestNeedsOfOptions(t *testing.T) {
	for _, kind := range []string{"int", "text", "list", "a|b", "bool|x", "true|false"} {
		modulesCan(t, "Needs of "+kind, oneOption(func(o *impl.Option) { o.Type, o.Default, o.Given = kind, "", false }), false)
		modulesCan(t, "no Needs of "+kind, oneOption(func(o *impl.Option) { o.Type, o.Default, o.Given, o.Needs = kind, "", false, []string{} }), true)
	}
	for row, want := range map[string]bool{
		"": true, "a": true, "on": true, "a b": true, "b a": false, "a a": false, "a b b": false, "a c b": false, "a a.b aa": true, "a aa a.b": false, "B a": true, "a B": false,
	} {
		modulesCan(t, "the Needs "+row, oneOption(func(o *impl.Option) { o.Needs = strings.Fields(row) }), want)
	}
	for n, want := range map[int]bool{19: true, 20: true, 21: false, 2000: false} {
		modulesCan(t, fmt.Sprint(n, " Needs"), oneOption(func(o *impl.Option) { o.Needs = manyNames(n) }), want)
	}
	modulesCan(t, "a Need that is empty", oneOption(func(o *impl.Option) { o.Needs = []string{"", "a"} }), false)
	modulesCan(t, "a Need that is none, last", oneOption(func(o *impl.Option) { o.Needs = []string{"a", "b."} }), false)
	modulesCan(t, "Needs without a Default", oneOption(func(o *impl.Option) { o.Default, o.Given = "", false }), true)
}

func TestRanks(t *testing.T) {
	for rank, want := range map[int64]bool{
		0: false, 1: true, 2: true, 100: true, 999: true, 1000: true, 1001: false, -1: false, -1000: false, math.MaxInt64: false, math.MinInt64: false, 1 << 32: false, 1<<32 + 1: false,
	} {
		modulesCan(t, fmt.Sprint("Rank ", rank), oneDef(func(d *impl.Def) { d.Rank = rank }), want)
	}
}

// What a definition has as its Value is asked by Merge alone.
func TestModulesOkWithAnyValue(t *testing.T) {
	for _, value := range []string{"", "x", " ", "\x00", strings.Repeat("x", 5000)} {
		modulesCan(t, fmt.Sprintf("the Value %.20q", value), oneDef(func(d *impl.Def) { d.Value = value }), true)
		ms := oneOption(func(o *impl.Option) { o.Type, o.Default, o.Given, o.Needs = "int", "", false, nil })
		ms[0].Defs = []impl.Def{{Option: "on", Value: value, Rank: 1}}
		modulesCan(t, fmt.Sprintf("the Value %.20q of an int", value), ms, true)
	}
}

func TestImportsOfModules(t *testing.T) {
	for row, want := range map[string]bool{
		"[m <]": true, "[m < m]": true, "[m < a]": true, "[m < a b]": true, "[m < b a]": false, "[m < a a]": false, "[m < a c b]": false, "[m < a b b]": false, "[m < .a]": false, "[m < a b/c]": false, "[m < a.. b.]": true,
	} {
		modulesCan(t, row, modulesOf(row), want)
	}
}

func manyModules(n int) []impl.Module {
	ms := []impl.Module{}
	for _, name := range manyNames(n) {
		ms = append(ms, impl.Module{Name: name})
	}
	return ms
}

func TestLimitsOfModules(t *testing.T) {
	for n, want := range map[int]bool{19: true, 20: true, 21: false, 100: false} {
		many, options, defs := manyNames(n), []impl.Option{}, []impl.Def{}
		for _, name := range many {
			options = append(options, impl.Option{Name: name, Type: "bool"})
			defs = append(defs, impl.Def{Option: name, Rank: 1})
		}
		modulesCan(t, fmt.Sprint(n, " Imports"), []impl.Module{{Name: "m", Imports: many}}, want)
		modulesCan(t, fmt.Sprint(n, " Options"), []impl.Module{{Name: "m", Options: options}}, want)
		modulesCan(t, fmt.Sprint(n, " Defs"), []impl.Module{{Name: "m", Defs: defs}}, want)
		modulesCan(t, fmt.Sprint(n, " of each"), []impl.Module{{Name: "m", Imports: many, Options: options, Defs: defs}}, want)
		modulesCan(t, fmt.Sprint(n, " of each in the last one"), []impl.Module{{Name: "l"}, {Name: "m", Imports: many, Options: options, Defs: defs}}, want)
	}
	for n, want := range map[int]bool{99: true, 100: true, 101: false, 3000: false} {
		modulesCan(t, fmt.Sprint(n, " modules"), manyModules(n), want)
	}
	if impl.MaxDeep != 8 || impl.MaxDeps != 20 || impl.MaxFiles != 100 || impl.MaxText != 4000 || impl.MaxMany != 2000 {
		t.Error("other limits")
	}
}

func importedIs(t *testing.T, ms []impl.Module, start []string, want []string) {
	t.Helper()
	if plain := plainImported(ms, start); !same(plain, want) {
		t.Errorf("%.200q from %.200q: plain words: %q, not %q", fmt.Sprint(ms), start, plain, want)
	}
	if got := impl.Imported(ms, start); !same(got, want) {
		t.Errorf("%.200q from %.200q: %q, not %q", fmt.Sprint(ms), start, got, want)
	}
}

func TestImported(t *testing.T) {
	const row = "[a < b] [b < c d] [c] [d < b e none] [e < e] [f < a] [g < none] [h < i] [i < j] [j < h] [k < .]"
	for _, r := range [][2]string{
		{"", ""}, {"c", "c"}, {"e", "e"}, {"a", "a b c d e"}, {"b", "b c d e"}, {"d", "b c d e"}, {"f", "a b c d e f"},
		{"g", "g"}, {"none", ""}, {"g none", "g"}, {"h", "h i j"}, {"i", "h i j"}, {"j", "h i j"}, {"j c", "c h i j"}, {"c j", "c h i j"},
		{"c c c", "c"}, {"e c", "c e"}, {"x y z", ""}, {"x e y c", "c e"}, {"e none c g c", "c e g"}, {"A", ""}, {"aa", ""}, {"a.", ""}, {"a b c d e f g h", "a b c d e f g h i j"},
	} {
		importedIs(t, modulesOf(row)[:10], strings.Fields(r[0]), strings.Fields(r[1]))
		importedIs(t, modulesOf(row), strings.Fields(r[0]), nil) // the last one can't be
	}
	importedIs(t, nil, []string{"a"}, nil)
	importedIs(t, modulesOf("[a]"), []string{"", " a", "a ", "a\x00", "\xff"}, nil)
	importedIs(t, modulesOf("[a]"), []string{"", " a", "a", "\xff"}, []string{"a"})
	importedIs(t, modulesOf("[a] [a]"), []string{"a"}, nil)
	importedIs(t, modulesOf("[a < a a]"), []string{"a"}, nil)
	importedIs(t, modulesOf("[a] x bool = yes"), []string{"a"}, nil)
	importedIs(t, modulesOf("[a] [b] x := 1 @1001"), []string{"a"}, nil)
}

func TestImportedOfManyNames(t *testing.T) {
	ms := modulesOf("[a < b] [b] [c]")
	start := slices.Repeat([]string{"x"}, 2001)
	start[1999] = "a"
	importedIs(t, ms, start[:2000], []string{"a", "b"})
	importedIs(t, ms, start[1:], []string{"a", "b"})
	importedIs(t, ms, start, nil)
	importedIs(t, ms, slices.Repeat([]string{"c"}, 2000), []string{"c"})
	importedIs(t, ms, slices.Repeat([]string{"c"}, 2001), nil)
}

// Of as many modules as can be, each imports the next one, or twenty others.
func TestImportedOfManyModules(t *testing.T) {
	names, row, ring := manyNames(100), manyModules(100), manyModules(100)
	for i := range 99 {
		row[i].Imports = names[i+1 : i+2]
	}
	for i := range ring {
		for k := range 20 {
			ring[i].Imports = append(ring[i].Imports, names[(i+1+k)%100])
		}
		slices.Sort(ring[i].Imports)
	}
	for i := range 100 {
		importedIs(t, row, names[i:i+1], names[i:])
	}
	importedIs(t, row, slices.Repeat(names, 20), names)
	importedIs(t, ring, names[57:58], names)
	importedIs(t, ring, slices.Repeat(names, 20), names)
}
