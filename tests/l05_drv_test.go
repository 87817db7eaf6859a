package tests

import (
	"fmt"
	"math/rand"
	"reflect"
	"regexp"
	"slices"
	"strings"
	"testing"

	"loop.example/g00023/impl"
)

// Addresses in ascending order: of derivations, and of anything.
var (
	usedDrvs = []string{"0000000000000-lib.drv", "1abcdfghijklm-tool.drv", "fzzzzzzzzzzzz-z.drv"}
	someAny  = []string{"0123456789abc-src", "2zzzzzzzzzzzz-lib.drv", "gzzzzzzzzzzzz-z"}
)

// wholeDrv has something in every list.
func wholeDrv() impl.Drv {
	return impl.Drv{
		Name: "hello-2.1", Builder: "write f \"x\"\ncopy \\ g\n", Outputs: []string{"doc", "out"},
		Env:     []impl.Pair{{Key: "PATH", Value: "/a b"}, {Key: "k", Value: ""}, {Key: "l.1", Value: "\n\"\\é\xff"}},
		Inputs:  []impl.Uses{{Drv: usedDrvs[0], Output: "dev"}, {Drv: usedDrvs[0], Output: "out"}, {Drv: usedDrvs[1], Output: "a"}},
		Sources: []string{someAny[0], someAny[1]},
	}
}

const wholeText = "larder 1\nname hello-2.1\nout doc\nout out\n" +
	"in 0000000000000-lib.drv dev\nin 0000000000000-lib.drv out\nin 1abcdfghijklm-tool.drv a\n" +
	"src 0123456789abc-src\nsrc 2zzzzzzzzzzzz-lib.drv\n" +
	"env PATH \"/a b\"\nenv k \"\"\nenv l.1 \"\\n\\\"\\\\é\xff\"\n" +
	"do \"write f \\\"x\\\"\\ncopy \\\\ g\\n\"\n"

func fixedDrv() impl.Drv {
	return impl.Drv{Name: "src", Builder: "get", Outputs: []string{"out"}, Fixed: "0123456789abc"}
}

const (
	plainNamePattern = `[-A-Za-z0-9_+][-A-Za-z0-9_+.]{0,59}`
	plainWordPattern = `[0-9a-dfg][0-9a-df-np-sv-z]{12}`
	plainTextPattern = `"((?:[^\x00-\x1f"\\]|\\[n"\\])*)"`
)

var (
	plainNames60  = regexp.MustCompile(`\A` + plainNamePattern + `\z`)
	plainWords13  = regexp.MustCompile(`\A` + plainWordPattern + `\z`)
	plainAddress  = regexp.MustCompile(`\A` + plainWordPattern + `-` + plainNamePattern + `\z`)
	plainDrvLines = regexp.MustCompile(`\Alarder 1\nname (` + plainNamePattern + `)\n((?:out [^ \n]*\n){1,5})(?:fixed (` + plainWordPattern + `)\n)?` +
		`((?:in [^ \n]*\.drv [^ \n]*\n)*)((?:src [^ \n]*\n)*)((?:env [^ \n]* "[^\n]*"\n)*)do ` + plainTextPattern + `\n\z`)
	plainEnvLine = regexp.MustCompile(`\A(` + plainNamePattern + `) ` + plainTextPattern + `\z`)
	plainMeaning = strings.NewReplacer(`\n`, "\n", `\"`, `"`, `\\`, `\`)
	plainShowing = strings.NewReplacer("\n", `\n`, `"`, `\"`, `\`, `\\`)
)

// plainAscending wants each text as a row of words, the first unlike one of which decides.
func plainAscending(rows [][]string) bool {
	for i := 1; i < len(rows); i++ {
		if slices.Compare(rows[i-1], rows[i]) >= 0 {
			return false
		}
	}
	return true
}

func plainTextFits(s string) bool {
	return len(s) <= 4000 && !strings.ContainsAny(strings.ReplaceAll(s, "\n", ""), string(lowBytes()))
}

func lowBytes() []byte {
	low := []byte{}
	for b := range byte(32) {
		low = append(low, b)
	}
	return low
}

// plainDrvOk says so from the words of the chapter alone.
func plainDrvOk(d impl.Drv) bool {
	ok := plainNames60.MatchString(d.Name) && plainTextFits(d.Builder) && len(d.Outputs) >= 1 && len(d.Outputs) <= 5
	ok = ok && (d.Fixed == "" || plainWords13.MatchString(d.Fixed) && slices.Equal(d.Outputs, []string{"out"}))
	ok = ok && len(d.Env) <= 2000 && len(d.Inputs) <= 2000 && len(d.Sources) <= 2000
	var outputs, keys, uses, sources [][]string
	for _, output := range d.Outputs {
		ok = ok && plainNames60.MatchString(output)
		outputs = append(outputs, []string{output})
	}
	for _, pair := range d.Env {
		ok = ok && plainNames60.MatchString(pair.Key) && plainTextFits(pair.Value)
		keys = append(keys, []string{pair.Key})
	}
	for _, use := range d.Inputs {
		ok = ok && plainAddress.MatchString(use.Drv) && strings.HasSuffix(use.Drv, ".drv") && plainNames60.MatchString(use.Output)
		uses = append(uses, []string{use.Drv, use.Output})
	}
	for _, source := range d.Sources {
		ok = ok && plainAddress.MatchString(source)
		sources = append(sources, []string{source})
	}
	return ok && plainAscending(outputs) && plainAscending(keys) && plainAscending(uses) && plainAscending(sources)
}

// plainDrvText writes it down whether it can be or not.
func plainDrvText(d impl.Drv) string {
	var b strings.Builder
	fmt.Fprintf(&b, "larder 1\nname %s\n", d.Name)
	for _, output := range d.Outputs {
		fmt.Fprintf(&b, "out %s\n", output)
	}
	if d.Fixed != "" {
		fmt.Fprintf(&b, "fixed %s\n", d.Fixed)
	}
	for _, use := range d.Inputs {
		fmt.Fprintf(&b, "in %s %s\n", use.Drv, use.Output)
	}
	for _, source := range d.Sources {
		fmt.Fprintf(&b, "src %s\n", source)
	}
	for _, pair := range d.Env {
		fmt.Fprintf(&b, "env %s \"%s\"\n", pair.Key, plainShowing.Replace(pair.Value))
	}
	fmt.Fprintf(&b, "do \"%s\"\n", plainShowing.Replace(d.Builder))
	return b.String()
}

func linesBehind(lines string, word string) []string {
	rest := []string{}
	for line := range strings.Lines(lines) {
		rest = append(rest, strings.TrimSuffix(strings.TrimPrefix(line, word+" "), "\n"))
	}
	return rest
}

// plainReadDrv takes the text apart by one pattern for all of it.
func plainReadDrv(s string) (impl.Drv, bool) {
	groups := plainDrvLines.FindStringSubmatch(s)
	if groups == nil {
		return impl.Drv{}, false
	}
	d := impl.Drv{Name: groups[1], Outputs: linesBehind(groups[2], "out"), Fixed: groups[3], Sources: linesBehind(groups[5], "src"), Builder: plainMeaning.Replace(groups[7])}
	for _, line := range linesBehind(groups[4], "in") {
		words := strings.Split(line, " ")
		d.Inputs = append(d.Inputs, impl.Uses{Drv: words[0], Output: words[1]})
	}
	for _, line := range linesBehind(groups[6], "env") {
		pair := plainEnvLine.FindStringSubmatch(line)
		if pair == nil {
			return impl.Drv{}, false
		}
		d.Env = append(d.Env, impl.Pair{Key: pair[1], Value: plainMeaning.Replace(pair[2])})
	}
	if !plainDrvOk(d) {
		return impl.Drv{}, false
	}
	return d, true
}

// can holds all functions of one derivation against what is to be.
func can(t *testing.T, what string, d impl.Drv, want bool) {
	t.Helper()
	if impl.DrvOk(d) != want || plainDrvOk(d) != want {
		t.Errorf("%s: DrvOk is %v, in plain words %v, wanted %v", what, impl.DrvOk(d), plainDrvOk(d), want)
	}
	written := plainDrvText(d)
	text, address := "", ""
	if want {
		text = written
		content := text
		if d.Fixed != "" {
			content = "fixed " + d.Fixed + " " + d.Name
		}
		address = impl.Address("drv", d.Name+".drv", []byte(content))
	}
	if got := impl.DrvText(d); got != text {
		t.Errorf("%s: the text is %.500q", what, got)
	}
	if got := impl.DrvAddress(d); got != address {
		t.Errorf("%s: the address is %q, not %q", what, got, address)
	}
	again, ok := impl.ReadDrv(written)
	if ok != want || want && !sameDrv(again, d) || !want && !reflect.DeepEqual(again, impl.Drv{}) {
		t.Errorf("%s: read again, it is %.500q, %v", what, fmt.Sprint(again), ok)
	}
	for _, output := range append([]string{"out", "doc", "bin", ""}, d.Outputs...) {
		path := ""
		if address != "" && slices.Contains(d.Outputs, output) {
			path = impl.Address("out", map[bool]string{true: d.Name, false: d.Name + "-" + output}[output == "out"], []byte(address+":"+output))
		}
		if got := impl.OutPath(d, output); got != path {
			t.Errorf("%s: %q stands at %q, not at %q", what, output, got, path)
		}
	}
	alone := []string{}
	if address != "" {
		alone = append(alone, address)
	}
	if got := impl.InputsOf([]impl.Drv{d}, address); !slices.Equal(got, alone) {
		t.Errorf("%s: alone it needs %q", what, got)
	}
}

type drvRow struct {
	what   string
	can    bool
	change func(d *impl.Drv)
}

func changed(t *testing.T, rows []drvRow) {
	t.Helper()
	for _, row := range rows {
		d := wholeDrv()
		row.change(&d)
		can(t, row.what, d, row.can)
	}
}

func TestDrvOfOrdinaryInputs(t *testing.T) {
	can(t, "whole", wholeDrv(), true)
	can(t, "fixed", fixedDrv(), true)
	can(t, "least", impl.Drv{Name: "a", Outputs: []string{"out"}}, true)
	can(t, "zero", impl.Drv{}, false)
	if got := impl.DrvText(wholeDrv()); got != wholeText {
		t.Errorf("%q", got)
	}
	if got, ok := impl.ReadDrv(wholeText); !ok || !sameDrv(got, wholeDrv()) {
		t.Errorf("%+v %v", got, ok)
	}
	if got, want := impl.DrvText(fixedDrv()), "larder 1\nname src\nout out\nfixed 0123456789abc\ndo \"get\"\n"; got != want {
		t.Errorf("%q", got)
	}
	if got, want := impl.DrvText(impl.Drv{Name: "a", Outputs: []string{"z"}}), "larder 1\nname a\nout z\ndo \"\"\n"; got != want {
		t.Errorf("%q", got)
	}
}

func TestDrvOfNames(t *testing.T) {
	rows := []drvRow{}
	for size, fits := range map[int]bool{0: false, 1: true, 55: true, 56: true, 57: true, 60: true, 61: false, 200: false} {
		name := strings.Repeat("n", size)
		rows = append(rows,
			drvRow{fmt.Sprint("a name of ", size), fits, func(d *impl.Drv) { d.Name = name }},
			drvRow{fmt.Sprint("an output of ", size), fits, func(d *impl.Drv) { d.Outputs = []string{name} }},
			drvRow{fmt.Sprint("a key of ", size), fits, func(d *impl.Drv) { d.Env = []impl.Pair{{Key: name}} }},
			drvRow{fmt.Sprint("a used output of ", size), fits, func(d *impl.Drv) { d.Inputs = []impl.Uses{{Drv: usedDrvs[0], Output: name}} }},
			drvRow{fmt.Sprint("a source named by ", size), fits, func(d *impl.Drv) { d.Sources = []string{"0123456789abc-" + name} }},
			drvRow{fmt.Sprint("an input named by 4 and ", size), size > 0 && size <= 56, func(d *impl.Drv) {
				d.Inputs = []impl.Uses{{Drv: "0123456789abc-" + name + ".drv", Output: "out"}}
			}},
		)
	}
	for _, b := range allBytes() {
		fits := plainNames60.MatchString("n" + string([]byte{b}))
		first := fits && b != '.'
		name, other := "n"+string([]byte{b}), string([]byte{b})+"n"
		rows = append(rows,
			drvRow{fmt.Sprintf("the name %q", name), fits, func(d *impl.Drv) { d.Name = name }},
			drvRow{fmt.Sprintf("the name %q", other), first, func(d *impl.Drv) { d.Name = other }},
			drvRow{fmt.Sprintf("the output %q", name), fits, func(d *impl.Drv) { d.Outputs = []string{name} }},
			drvRow{fmt.Sprintf("the output %q", other), first, func(d *impl.Drv) { d.Outputs = []string{other} }},
			drvRow{fmt.Sprintf("the key %q", name), fits, func(d *impl.Drv) { d.Env = []impl.Pair{{Key: name, Value: "v"}} }},
			drvRow{fmt.Sprintf("the key %q", other), first, func(d *impl.Drv) { d.Env = []impl.Pair{{Key: other, Value: "v"}} }},
			drvRow{fmt.Sprintf("the used output %q", name), fits, func(d *impl.Drv) { d.Inputs[1].Output = name }},
			drvRow{fmt.Sprintf("the source %q", name), fits, func(d *impl.Drv) { d.Sources = []string{"0123456789abc-" + name} }},
			drvRow{fmt.Sprintf("the input %q", name), fits, func(d *impl.Drv) { d.Inputs = []impl.Uses{{Drv: "0123456789abc-" + name + ".drv", Output: "out"}} }},
		)
	}
	// Among the outputs of one derivation, a used one has its place.
	for i := range rows {
		if strings.HasPrefix(rows[i].what, "the used output") {
			change := rows[i].change
			rows[i].change = func(d *impl.Drv) {
				change(d)
				d.Inputs = d.Inputs[1:2]
			}
		}
	}
	changed(t, rows)
}

func TestDrvOfOutputs(t *testing.T) {
	rows := []drvRow{}
	for _, row := range []struct {
		outputs string
		can     bool
	}{
		{"", false}, {"out", true}, {"doc", true}, {"a b c d e", true}, {"a b c d e f", false}, {"a b c d out", true}, {"out a", false},
		{"a a", false}, {"a b b", false}, {"a c b", false}, {"b a c", false}, {"a aa", true}, {"aa a", false}, {"B a", true}, {"a B", false}, {"drv name out type", true},
		{"+ - . _", false}, {"+ - 0 A _ a", false}, {"+ - 0 A _", true}, {"in let", true}, {"out out", false}, {"a.b out", true},
	} {
		rows = append(rows, drvRow{"outputs " + row.outputs, row.can, func(d *impl.Drv) { d.Outputs = strings.Fields(row.outputs) }})
	}
	rows = append(rows, drvRow{"outputs nil", false, func(d *impl.Drv) { d.Outputs = nil }},
		drvRow{"an empty output", false, func(d *impl.Drv) { d.Outputs = []string{""} }},
		drvRow{"an empty output and one", false, func(d *impl.Drv) { d.Outputs = []string{"", "out"} }})
	changed(t, rows)
}

func TestDrvOfFixed(t *testing.T) {
	rows := []drvRow{}
	for _, row := range []struct {
		fixed   string
		outputs string
		can     bool
	}{
		{"", "out", true}, {"", "doc", true}, {"", "doc out", true},
		{impl.Word32(0), "out", true}, {impl.Word32(1<<64 - 1), "out", true}, {"gzzzzzzzzzzzz", "out", true}, {"hzzzzzzzzzzzz", "out", false},
		{"0123456789ab", "out", false}, {"0123456789abcd", "out", false}, {"0123456789abe", "out", false}, {"0123456789abC", "out", false}, {" 123456789abc", "out", false},
		{"0123456789abc ", "out", false}, {"0123456789abc\n", "out", false}, {"0", "out", false}, {"zzzzzzzzzzzzz", "out", false}, {"0123456789ab\x00", "out", false},
		{"0123456789abc", "doc", false}, {"0123456789abc", "doc out", false}, {"0123456789abc", "out z", false}, {"0123456789abc", "", false}, {"0123456789abc", "out out", false},
	} {
		rows = append(rows, drvRow{fmt.Sprintf("fixed %q, outputs %s", row.fixed, row.outputs), row.can, func(d *impl.Drv) {
			d.Fixed = row.fixed
			d.Outputs = strings.Fields(row.outputs)
		}})
	}
	changed(t, rows)
}

func TestDrvOfTexts(t *testing.T) {
	rows := []drvRow{}
	both := func(what string, fits bool, s string) {
		rows = append(rows,
			drvRow{"a builder " + what, fits, func(d *impl.Drv) { d.Builder = s }},
			drvRow{"a value " + what, fits, func(d *impl.Drv) { d.Env[1].Value = s }},
			drvRow{"the last value " + what, fits, func(d *impl.Drv) { d.Env[2].Value = s }})
	}
	for _, b := range allBytes() {
		for _, s := range []string{string([]byte{b}), "a" + string([]byte{b}), string([]byte{b}) + "b", "a" + string([]byte{b, b}) + "é"} {
			both(fmt.Sprintf("%q", s), b >= 32 || b == 10, s)
		}
	}
	for _, filler := range []string{"x", "\n", `"`, `\`, "\x7f", "\xff"} {
		both("of MaxText of "+filler, true, strings.Repeat(filler, impl.MaxText))
		both("of MaxText and one more of "+filler, false, strings.Repeat(filler, impl.MaxText+1))
		both("of MaxText and a tab", false, strings.Repeat(filler, impl.MaxText-1)+"\t")
	}
	both("that is empty", true, "")
	both("of runes", true, strings.Repeat("é", impl.MaxText/2))
	both("of too many runes", false, strings.Repeat("é", impl.MaxText/2)+"x")
	both(`\n as it is shown`, true, `\n`)
	both(`that is a text as it is shown`, true, `"a\"b" c`)
	both("that looks like lines", true, "\ndo \"x\"\nlarder 1\n")
	changed(t, rows)
}

func pairsOf(keys string) []impl.Pair {
	pairs := []impl.Pair{}
	for i, key := range strings.Fields(keys) {
		pairs = append(pairs, impl.Pair{Key: key, Value: fmt.Sprint(9 - i)})
	}
	return pairs
}

func TestDrvOfEnv(t *testing.T) {
	rows := []drvRow{}
	for keys, fits := range map[string]bool{
		"": true, "a": true, "a b": true, "b a": false, "a a": false, "a b b": false, "a c b": false, "a aa": true, "aa a": false, "B a": true, "a B": false,
		"+ - 0 A _ a": true, "out": true, "name builder": false, "builder name": true,
	} {
		rows = append(rows, drvRow{"keys " + keys, fits, func(d *impl.Drv) { d.Env = pairsOf(keys) }})
	}
	rows = append(rows,
		drvRow{"one key with two values", false, func(d *impl.Drv) { d.Env = []impl.Pair{{Key: "a", Value: "1"}, {Key: "a", Value: "2"}} }},
		drvRow{"a pair twice", false, func(d *impl.Drv) { d.Env = []impl.Pair{{Key: "a", Value: "1"}, {Key: "a", Value: "1"}} }},
		drvRow{"a wrong key in the midst", false, func(d *impl.Drv) { d.Env[1].Key = "Q " }},
		drvRow{"an empty key", false, func(d *impl.Drv) { d.Env[0].Key = "" }})
	changed(t, rows)
}

func TestDrvOfInputs(t *testing.T) {
	a, b := usedDrvs[0], usedDrvs[1]
	rows := []drvRow{}
	for _, row := range []struct {
		uses []impl.Uses
		can  bool
	}{
		{nil, true}, {[]impl.Uses{{Drv: a, Output: "out"}}, true}, {[]impl.Uses{{Drv: a, Output: "z"}, {Drv: b, Output: "a"}}, true},
		{[]impl.Uses{{Drv: b, Output: "a"}, {Drv: a, Output: "z"}}, false}, {[]impl.Uses{{Drv: b, Output: "a"}, {Drv: a, Output: "a"}}, false},
		{[]impl.Uses{{Drv: a, Output: "a"}, {Drv: a, Output: "a"}}, false}, {[]impl.Uses{{Drv: a, Output: "b"}, {Drv: a, Output: "a"}}, false},
		{[]impl.Uses{{Drv: a, Output: "a"}, {Drv: a, Output: "b"}, {Drv: a, Output: "c"}}, true}, {[]impl.Uses{{Drv: a, Output: "a"}, {Drv: a, Output: "c"}, {Drv: a, Output: "b"}}, false},
		{[]impl.Uses{{Drv: a, Output: "a"}, {Drv: b, Output: "a"}, {Drv: b, Output: "a"}}, false}, {[]impl.Uses{{Drv: a, Output: ""}}, false}, {[]impl.Uses{{Drv: "", Output: "out"}}, false},
		{[]impl.Uses{{Drv: a, Output: "a"}, {Drv: b, Output: ""}}, false}, {[]impl.Uses{{Drv: a, Output: "a"}, {Drv: b + " ", Output: "a"}}, false},
		{[]impl.Uses{{Drv: a + "!out", Output: "out"}}, false}, {[]impl.Uses{{Drv: "lib.drv", Output: "out"}}, false}, {[]impl.Uses{{Drv: "000000000000-lib.drv", Output: "out"}}, false},
		{[]impl.Uses{{Drv: "h000000000000-lib.drv", Output: "out"}}, false}, {[]impl.Uses{{Drv: "0000000000000-.drv", Output: "out"}}, false},
		{[]impl.Uses{{Drv: "0000000000000-lib", Output: "out"}}, false}, {[]impl.Uses{{Drv: "0000000000000-lib.drv.x", Output: "out"}}, false},
		{[]impl.Uses{{Drv: "0000000000000-lib.DRV", Output: "out"}}, false}, {[]impl.Uses{{Drv: "0000000000000-drv", Output: "out"}}, false},
		{[]impl.Uses{{Drv: "0000000000000_lib.drv", Output: "out"}}, false}, {[]impl.Uses{{Drv: "e000000000000-lib.drv", Output: "out"}}, false},
	} {
		rows = append(rows, drvRow{fmt.Sprintf("inputs %v", row.uses), row.can, func(d *impl.Drv) { d.Inputs = row.uses }})
	}
	changed(t, rows)
}

func TestDrvOfSources(t *testing.T) {
	a, b, c := someAny[0], someAny[1], someAny[2]
	rows := []drvRow{}
	for _, row := range []struct {
		sources []string
		can     bool
	}{
		{nil, true}, {[]string{a}, true}, {[]string{a, b, c}, true}, {[]string{b, a}, false}, {[]string{a, a}, false}, {[]string{a, c, b}, false}, {[]string{a, b, b}, false},
		{[]string{a, a + "a"}, true}, {[]string{a + "a", a}, false}, {[]string{""}, false}, {[]string{"src"}, false}, {[]string{a, "z"}, false}, {[]string{a[1:]}, false},
		{[]string{"0123456789abc"}, false}, {[]string{"0123456789abc-"}, false}, {[]string{"0123456789abc-.x"}, false}, {[]string{"0123456789abc--"}, true},
		{[]string{"0123456789abe-x"}, false}, {[]string{"0123456789abc-x\n"}, false}, {[]string{"0123456789abc-x y"}, false}, {[]string{"", a}, false}, {[]string{usedDrvs[0]}, true},
	} {
		rows = append(rows, drvRow{fmt.Sprintf("sources %q", row.sources), row.can, func(d *impl.Drv) { d.Sources = row.sources }})
	}
	changed(t, rows)
}

func TestDrvOfMaxParts(t *testing.T) {
	rows := []drvRow{}
	for many, fits := range map[int]bool{impl.MaxParts - 1: true, impl.MaxParts: true, impl.MaxParts + 1: false} {
		var env []impl.Pair
		var outputs, drvs []impl.Uses
		var sources []string
		for n := range many {
			env = append(env, impl.Pair{Key: fmt.Sprintf("k%04d", n), Value: "v"})
			outputs = append(outputs, impl.Uses{Drv: usedDrvs[0], Output: fmt.Sprintf("o%04d", n)})
			drvs = append(drvs, impl.Uses{Drv: fmt.Sprintf("000000000%04d-d.drv", n), Output: "out"})
			sources = append(sources, fmt.Sprintf("000000000%04d-s", n))
		}
		rows = append(rows,
			drvRow{fmt.Sprint(many, " pairs"), fits, func(d *impl.Drv) { d.Env = env }},
			drvRow{fmt.Sprint(many, " outputs used"), fits, func(d *impl.Drv) { d.Inputs = outputs }},
			drvRow{fmt.Sprint(many, " inputs"), fits, func(d *impl.Drv) { d.Inputs = drvs }},
			drvRow{fmt.Sprint(many, " sources"), fits, func(d *impl.Drv) { d.Sources = sources }},
			drvRow{fmt.Sprint(many, " of all"), fits, func(d *impl.Drv) { d.Env, d.Inputs, d.Sources = env, drvs, sources }})
	}
	changed(t, rows)
}

// readsPlainly holds ReadDrv against the pattern; what is read is shown as the text again.
func readsPlainly(t *testing.T, s string) bool {
	t.Helper()
	want, can := plainReadDrv(s)
	got, ok := impl.ReadDrv(s)
	if ok != can || !sameDrv(got, want) || !ok && !reflect.DeepEqual(got, impl.Drv{}) || ok && impl.DrvText(got) != s {
		t.Errorf("%.900q\n is read as %+v, %v\n not        %+v, %v", s, got, ok, want, can)
	}
	return ok
}

func noDrvText(t *testing.T, what string, s string) {
	t.Helper()
	if readsPlainly(t, s) {
		t.Errorf("%s is read: %q", what, s)
	}
}

func TestReadDrvOfOneByteChanged(t *testing.T) {
	texts := []string{wholeText, impl.DrvText(fixedDrv()), "larder 1\nname a\nout z\ndo \"\"\n"}
	for number, s := range texts {
		if !readsPlainly(t, s) {
			t.Fatalf("%q is not read", s)
		}
		tried := "\n \x00\t\"\\naz0-.!e"
		if number > 0 {
			tried = string(allBytes())
		}
		for at := range len(s) + 1 {
			for i := range len(tried) {
				readsPlainly(t, s[:at]+tried[i:i+1]+s[at:])
				if at < len(s) {
					readsPlainly(t, s[:at]+tried[i:i+1]+s[at+1:])
				}
			}
			if at < len(s) {
				readsPlainly(t, s[:at]+s[at+1:])
				noDrvText(t, "a beginning", s[:at])
			}
			if at > 0 {
				noDrvText(t, "an end", s[at:])
			}
		}
	}
}

func TestReadDrvOfLinesInAnotherOrder(t *testing.T) {
	lines := slices.Collect(strings.Lines(wholeText))
	for i := range lines {
		noDrvText(t, "a text with a line twice", strings.Join(slices.Insert(slices.Clone(lines), i, lines[i]), ""))
		for j := range i {
			swapped := slices.Clone(lines)
			swapped[i], swapped[j] = swapped[j], swapped[i]
			noDrvText(t, "a text with two lines exchanged", strings.Join(swapped, ""))
			moved := slices.Insert(slices.Delete(slices.Clone(lines), i, i+1), j, lines[i])
			noDrvText(t, "a text with a line moved", strings.Join(moved, ""))
		}
	}
	some := []string{"larder 1\n", "name a\n", "out doc\n", "out out\n", "fixed 0123456789abc\n", "in 0000000000000-lib.drv out\n", "src 0123456789abc-src\n", "env k \"v\"\n", "do \"x\"\n"}
	read := 0
	everyRow(some, 5, func(row []string) {
		if readsPlainly(t, strings.Join(row, "")) {
			read++
		}
	})
	// Four lines that must be there, with one of two outputs; a fifth is the other output, fixed behind out, an input, a source, a pair.
	if want := 2 + 1 + 1 + 2*3; read != want {
		t.Errorf("%d rows of lines are read, not %d", read, want)
	}
}

func TestReadDrvOfTextsWrittenInAnotherWay(t *testing.T) {
	for _, row := range [][2]string{
		{"larder 1\n", ""}, {"larder 1\n", "larder 2\n"}, {"larder 1\n", "larder 01\n"}, {"larder 1\n", "larder 1 \n"}, {"larder 1\n", "larder  1\n"}, {"larder 1\n", "larder\n"},
		{"larder 1\n", "Larder 1\n"}, {"larder 1\n", "\nlarder 1\n"}, {"larder 1\n", " larder 1\n"}, {"larder 1\n", "larder 1\r\n"}, {"larder 1\n", "larder 1\nlarder 1\n"},
		{"larder 1\n", "larder\t1\n"}, {"larder 1\n", "larder 1\n\n"}, {"larder 1\n", "# note\nlarder 1\n"},
		{"name hello-2.1\n", ""}, {"name hello-2.1\n", "name\n"}, {"name hello-2.1\n", "name \n"}, {"name hello-2.1\n", "name  hello-2.1\n"}, {"name hello-2.1\n", "name hello-2.1 x\n"},
		{"name hello-2.1\n", "name \"hello-2.1\"\n"}, {"name hello-2.1\n", "name a\nname hello-2.1\n"}, {"name hello-2.1\n", "name .a\n"},
		{"out doc\nout out\n", ""}, {"out doc\nout out\n", "out doc out\n"}, {"out doc\nout out\n", "out\n"}, {"out doc\nout out\n", "out doc\n out out\n"},
		{"out doc\nout out\n", "out out\nout doc\n"}, {"out doc\n", "out out\n"}, {"out doc\n", "out a\nout b\nout c\nout d\nout e\n"}, {"out doc\n", "out doc\nfixed 0123456789abc\n"},
		{"out doc\nout out\n", "out out\nfixed \n"}, {"out doc\nout out\n", "out out\nfixed\n"}, {"out doc\nout out\n", "fixed 0123456789abc\nout out\n"},
		{"out doc\nout out\n", "out out\nfixed 0123456789abc\nfixed 0123456789abc\n"}, {"out doc\nout out\n", "out out\nfixed h123456789abc\n"}, {"out doc\nout out\n", "out doc\nfixed 0123456789abc\n"},
		{"lib.drv dev\n", "lib.drv  dev\n"}, {"lib.drv dev\n", "lib.drv!dev\n"}, {"lib.drv dev\n", "lib.drv dev \n"}, {"lib.drv dev\n", "lib.drv dev x\n"}, {"lib.drv dev\n", "lib.drv\n"},
		{"in 0000000000000-lib.drv dev\n", "in dev 0000000000000-lib.drv\n"}, {"in 0000000000000-lib.drv dev\n", "in  0000000000000-lib.drv dev\n"},
		{"src 0123456789abc-src\n", "src  0123456789abc-src\n"}, {"src 0123456789abc-src\n", "src 0123456789abc-src \n"}, {"src 0123456789abc-src\n", "src\n"}, {"src 0123456789abc-src\n", "src \n"},
		{"env k \"\"\n", "env k\n"}, {"env k \"\"\n", "env k \n"}, {"env k \"\"\n", "env k  \"\"\n"}, {"env k \"\"\n", "env k \"\" \n"}, {"env k \"\"\n", "env k \"\" \"\"\n"}, {"env k \"\"\n", "env k \"\n"},
		{"env k \"\"\n", "env k v\n"}, {"env k \"\"\n", "env k x\"\"\n"}, {"env k \"\"\n", "env k xv\"\n"}, {"env k \"\"\n", "env \"\"\n"}, {"env k \"\"\n", "env  \"\"\n"}, {"env k \"\"\n", "env\n"},
		{"env k \"\"\n", "env k \"\\a\"\n"}, {"env k \"\"\n", "env k \"\\t\"\n"}, {"env k \"\"\n", "env k \"\t\"\n"}, {"env k \"\"\n", "env k \"\\x41\"\n"}, {"env k \"\"\n", "env k \"\\u0041\"\n"},
		{"env k \"\"\n", "env k \"a\nb\"\n"}, {"env k \"\"\n", "env k \"\\\n\"\n"}, {"env k \"\"\n", "env k \"\\\"\n"}, {"env k \"\"\n", "env k \"a\"b\"\n"}, {"env k \"\"\n", "env k \"a\"#\n"},
		{"env k \"\"\n", "env k `v`\n"}, {"env k \"\"\n", "env k 'v'\n"}, {"env k \"\"\n", "env k = \"v\"\n"}, {"env k \"\"\n", "env PATH \"\"\n"}, {"env k \"\"\n", "env .k \"\"\n"},
		{"do ", "do  "}, {"do ", "do"}, {"do ", "do x"}, {"do ", "DO "}, {"do ", "run "}, {"do ", "do \"\"\ndo "}, {"\\n\"\n", "\\n\""}, {"\\n\"\n", "\\n\"\n\n"}, {"\\n\"\n", "\\n\"\n "}, {"\\n\"\n", "\\n\"\nx"},
		{"\\n\"\n", "\\n\"\nenv z \"\"\n"}, {"\\n\"\n", "\\n\"\r\n"}, {"\\n\"\n", "\\n\"\x00"}, {"\\n\"\n", "\\n\n"}, {"\\n\"\n", "\n\"\n"}, {"\\n\"\n", "\\t\"\n"}, {"\\n\"\n", "\\r\"\n"},
	} {
		if strings.Count(wholeText, row[0]) != 1 && row[0] != "do " && row[0] != "out doc\n" {
			t.Errorf("%q stands there %d times", row[0], strings.Count(wholeText, row[0]))
		}
		at := strings.LastIndex(wholeText, row[0])
		noDrvText(t, fmt.Sprintf("%q for %q", row[1], row[0]), wholeText[:at]+row[1]+wholeText[at+len(row[0]):])
	}
	for _, s := range []string{"", "\n", " ", "larder 1", "larder 1\n", "larder 1\nname a\nout out\n", "do \"\"\n", "\x00", "let x = 1; in x", wholeText + wholeText, strings.TrimSuffix(wholeText, "\n"),
		strings.ToUpper(wholeText), strings.ReplaceAll(wholeText, "\n", "\r\n"), strings.ReplaceAll(wholeText, " ", "  "), "larder 1\nname a\nout out\ndo \"" + strings.Repeat("x", impl.MaxText+1) + "\"\n",
		strings.Repeat("\n", 100000), strings.Repeat("larder 1\n", 100000), strings.Repeat("x", 1000000), strings.Repeat("name a\nout b\n", 50000), "do \"" + strings.Repeat("\\", 1000000)} {
		noDrvText(t, "a wrong text", s)
	}
	for _, s := range []string{"larder 1\nname a\nout out\ndo \"" + strings.Repeat("\\n", impl.MaxText) + "\"\n", "larder 1\nname a\nout out\ndo \"\xff\x80\"\n"} {
		if !readsPlainly(t, s) {
			t.Errorf("%.100q is not read", s)
		}
	}
}

// A drvMaker makes derivations, many of which can't be.
type drvMaker struct{ *rand.Rand }

func (m drvMaker) pick(texts ...string) string { return texts[m.Intn(len(texts))] }

func (m drvMaker) name() string {
	if m.Intn(60) == 0 {
		return m.pick("", ".a", "a b", "é", "a\n", "a'", strings.Repeat("n", 61))
	}
	return m.pick("a", "b", "out", "doc", "lib-1.2", "+", "_x", "A", "zz", "n.drv", strings.Repeat("n", 56), strings.Repeat("n", 60))
}

func (m drvMaker) word() string {
	if m.Intn(60) == 0 {
		return m.pick("0", "hhhhhhhhhhhhh", "0123456789abe", "00000000000000")
	}
	return impl.Word32(m.Uint64() >> m.Intn(64))
}

func (m drvMaker) text() string {
	s := ""
	for range m.Intn(4) {
		s += m.pick("a", " ", "\n", `"`, `\`, "é", "\xff", "do", "n", "\x7f")
	}
	if m.Intn(60) == 0 {
		s += m.pick("\t", "\x00", "\x1f", "\r")
	}
	return s
}

func (m drvMaker) drv() impl.Drv {
	d := impl.Drv{Name: m.name(), Builder: m.text()}
	for range 1 + m.Intn(3) {
		d.Outputs = append(d.Outputs, m.name())
	}
	if m.Intn(4) == 0 {
		d.Fixed = m.word()
		d.Outputs = []string{m.pick("out", "out", "out", "doc")}
	}
	for range m.Intn(4) {
		d.Env = append(d.Env, impl.Pair{Key: m.name(), Value: m.text()})
	}
	for range m.Intn(4) {
		d.Inputs = append(d.Inputs, impl.Uses{Drv: m.pick(m.word()+"-"+m.name()+".drv", usedDrvs[0], usedDrvs[1]), Output: m.name()})
	}
	for range m.Intn(4) {
		d.Sources = append(d.Sources, m.word()+"-"+m.name())
	}
	if m.Intn(10) > 0 {
		slices.Sort(d.Outputs)
		slices.SortFunc(d.Env, func(a, b impl.Pair) int { return strings.Compare(a.Key, b.Key) })
		slices.SortFunc(d.Inputs, func(a, b impl.Uses) int { return slices.Compare([]string{a.Drv, a.Output}, []string{b.Drv, b.Output}) })
		slices.Sort(d.Sources)
	}
	return d
}

func TestDrvOfRandomOnes(t *testing.T) {
	m := drvMaker{rand.New(rand.NewSource(5))}
	good := 0
	for range 20000 {
		d := m.drv()
		ok := plainDrvOk(d)
		if ok {
			good++
		}
		can(t, fmt.Sprintf("%+v", d), d, ok)
		s := plainDrvText(d)
		readsPlainly(t, s)
		at := m.Intn(len(s))
		readsPlainly(t, s[:at]+s[at+1:])
	}
	if good < 5000 || good > 15000 {
		t.Error("of the random ones, these can be:", good)
	}
}

func TestDrvAddressesTellApart(t *testing.T) {
	m := drvMaker{rand.New(rand.NewSource(9))}
	texts, addresses := map[string]string{}, map[string]string{}
	for range 20000 {
		d := m.drv()
		address := impl.DrvAddress(d)
		if address == "" {
			continue
		}
		content := impl.DrvText(d)
		if d.Fixed != "" {
			content = d.Fixed + " " + d.Name
		}
		if known, is := addresses[content]; is && known != address {
			t.Errorf("%+v has the addresses %s and %s", d, known, address)
		}
		if known, is := texts[address]; is && known != content {
			t.Errorf("%q and %q have the address %s", known, content, address)
		}
		addresses[content], texts[address] = address, content
		if !impl.AddressOk(address) || address[13:] != "-"+d.Name+".drv" {
			t.Errorf("%+v: %q", d, address)
		}
	}
	if len(texts) < 3000 {
		t.Error("too few:", len(texts))
	}
}

// Each of these changes alone the address of what is not fixed.
var smallChanges = []func(d *impl.Drv){
	func(d *impl.Drv) { d.Builder += "\n" },
	func(d *impl.Drv) { d.Builder = "" },
	func(d *impl.Drv) { d.Env = nil },
	func(d *impl.Drv) { d.Env = []impl.Pair{{Key: "a", Value: "b"}} },
	func(d *impl.Drv) { d.Env = []impl.Pair{{Key: "a", Value: "c"}} },
	func(d *impl.Drv) { d.Env = []impl.Pair{{Key: "b", Value: "c"}} },
	func(d *impl.Drv) { d.Env = []impl.Pair{{Key: "a"}, {Key: "b"}} },
	func(d *impl.Drv) { d.Inputs = nil },
	func(d *impl.Drv) { d.Inputs = []impl.Uses{{Drv: usedDrvs[2], Output: "out"}} },
	func(d *impl.Drv) { d.Inputs = []impl.Uses{{Drv: usedDrvs[2], Output: "doc"}} },
	func(d *impl.Drv) { d.Inputs = []impl.Uses{{Drv: usedDrvs[1], Output: "out"}} },
	func(d *impl.Drv) { d.Sources = nil },
	func(d *impl.Drv) { d.Sources = []string{someAny[2]} },
	func(d *impl.Drv) { d.Sources = []string{someAny[1]} },
	func(d *impl.Drv) { d.Inputs, d.Sources = nil, []string{usedDrvs[1]} },
}

func TestWhatFixedChangesInAddresses(t *testing.T) {
	seen := []string{impl.DrvAddress(wholeDrv())}
	for i, change := range smallChanges {
		d := wholeDrv()
		change(&d)
		seen = append(seen, impl.DrvAddress(d))
		d = fixedDrv()
		change(&d)
		want := impl.Address("drv", "src.drv", []byte("fixed 0123456789abc src"))
		if impl.DrvAddress(d) != want || impl.OutPath(d, "out") != impl.Address("out", "src", []byte(want+":out")) {
			t.Errorf("change %d: %s", i, impl.DrvAddress(d))
		}
		if impl.DrvText(d) == "" || impl.DrvText(d) == "fixed 0123456789abc src" {
			t.Errorf("change %d: %q", i, impl.DrvText(d))
		}
	}
	for _, outputs := range []string{"doc", "out", "doc out z"} {
		d := wholeDrv()
		d.Outputs = strings.Fields(outputs)
		seen = append(seen, impl.DrvAddress(d))
	}
	d, e, f, g := fixedDrv(), fixedDrv(), fixedDrv(), fixedDrv()
	d.Fixed, e.Name, f.Fixed, g.Fixed = "1123456789abc", "src2", "", "0123456789abd"
	seen = append(seen, impl.DrvAddress(fixedDrv()), impl.DrvAddress(d), impl.DrvAddress(e), impl.DrvAddress(f), impl.DrvAddress(g))
	if slices.Contains(seen, "") {
		t.Error("one has none:", seen)
	}
	if twice, is := impl.Clash(seen); is {
		t.Error("two have one address:", twice, seen)
	}
}

func TestDrvAddressOfLongNames(t *testing.T) {
	for size, has := range map[int]bool{1: true, 55: true, 56: true, 57: false, 58: false, 60: false, 61: false} {
		for _, fixed := range []string{"", "0123456789abc"} {
			d := impl.Drv{Name: strings.Repeat("n", size), Outputs: []string{"out"}, Fixed: fixed}
			address := impl.DrvAddress(d)
			if (address != "") != has || has && !impl.AddressOk(address) {
				t.Errorf("a name of %d has the address %q", size, address)
			}
			if (impl.OutPath(d, "out") != "") != has || (impl.DrvText(d) != "") != (size <= 60) || impl.DrvOk(d) != (size <= 60) {
				t.Errorf("a name of %d: %q stands at %q", size, impl.DrvText(d), impl.OutPath(d, "out"))
			}
		}
	}
}

func TestOutPath(t *testing.T) {
	d := wholeDrv()
	address := impl.DrvAddress(d)
	for output, want := range map[string]string{
		"out": impl.Address("out", "hello-2.1", []byte(address+":out")),
		"doc": impl.Address("out", "hello-2.1-doc", []byte(address+":doc")),
		"bin": "", "": "", "ou": "", "Out": "", "doc ": "", "doc\nout": "", "dev": "", "hello-2.1": "", "\x00": "",
	} {
		if got := impl.OutPath(d, output); got != want {
			t.Errorf("%q stands at %q, not at %q", output, got, want)
		}
	}
	if got := impl.OutPath(impl.Drv{Name: "a", Outputs: []string{"doc"}}, "out"); got != "" {
		t.Error("out is not there, and stands at", got)
	}
	if got := impl.OutPath(impl.Drv{Name: "a", Outputs: []string{"out", "doc"}}, "out"); got != "" {
		t.Error("what can't be stands at", got)
	}
	for _, row := range []struct {
		name, output int
		has          bool
	}{{56, 3, true}, {56, 4, false}, {50, 9, true}, {50, 10, false}, {1, 58, true}, {1, 59, false}, {1, 60, false}, {30, 29, true}, {30, 30, false}, {56, 60, false}, {57, 1, false}} {
		output := strings.Repeat("o", row.output)
		d := impl.Drv{Name: strings.Repeat("n", row.name), Outputs: []string{output, "out"}}
		got := impl.OutPath(d, output)
		if (got != "") != row.has || row.has && (!impl.AddressOk(got) || got[13:] != "-"+d.Name+"-"+output) {
			t.Errorf("%+v: %q", row, got)
		}
		if !impl.DrvOk(d) || (impl.OutPath(d, "out") != "") != (row.name <= 56) {
			t.Errorf("%+v: out stands at %q", row, impl.OutPath(d, "out"))
		}
	}
}

// needing makes a derivation that uses the outputs of those.
func needing(name string, ds ...impl.Drv) impl.Drv {
	return needingAt(name, addressesOf(ds...)...)
}

func needingAt(name string, addresses ...string) impl.Drv {
	d := impl.Drv{Name: name, Builder: "b", Outputs: []string{"out"}}
	slices.Sort(addresses)
	for _, address := range addresses {
		d.Inputs = append(d.Inputs, impl.Uses{Drv: address, Output: "out"})
	}
	return d
}

func addressesOf(ds ...impl.Drv) []string {
	addresses := []string{}
	for _, d := range ds {
		addresses = append(addresses, impl.DrvAddress(d))
	}
	return addresses
}

// fixedAt has an address that does not hang on what it uses.
func fixedAt(name string, addresses ...string) impl.Drv {
	d := needingAt(name, addresses...)
	d.Fixed = "0123456789abc"
	return d
}

func needs(t *testing.T, what string, ds []impl.Drv, address string, want ...string) {
	t.Helper()
	slices.Sort(want)
	for range len(ds) + 1 {
		if got := impl.InputsOf(ds, address); !slices.Equal(got, want) {
			t.Errorf("%s: %q, not %q", what, got, want)
		}
		if len(ds) > 20 {
			return
		}
		if len(ds) > 0 {
			ds = append(slices.Clone(ds[1:]), ds[0])
		}
	}
}

func TestInputsOf(t *testing.T) {
	a := needing("a")
	b := needing("b", a)
	c := needing("c", b)
	side := needing("side", a)
	top := needing("top", c, side)
	alone := needing("alone")
	at := impl.DrvAddress
	all := []impl.Drv{a, b, c, side, top, alone}
	needs(t, "no list", nil, at(a))
	needs(t, "an empty list", []impl.Drv{}, at(a))
	needs(t, "no list and no address", nil, "")
	needs(t, "no address", all, "")
	needs(t, "what is not there", all, at(needing("other")))
	needs(t, "what is no address", all, "a")
	needs(t, "what is nearly one", all, at(a)+" ")
	needs(t, "an output", all, impl.OutPath(a, "out"))
	needs(t, "one alone", []impl.Drv{a}, at(a), at(a))
	needs(t, "one that needs none", all, at(alone), at(alone))
	needs(t, "the end of a chain", all, at(a), at(a))
	needs(t, "a chain of two", all, at(b), addressesOf(a, b)...)
	needs(t, "a chain of three", all, at(c), addressesOf(a, b, c)...)
	needs(t, "a side", all, at(side), addressesOf(a, side)...)
	needs(t, "what several need", all, at(top), addressesOf(a, b, c, side, top)...)
	needs(t, "an input that is not in the list", []impl.Drv{b}, at(b), at(b))
	needs(t, "a chain with a gap", []impl.Drv{a, c}, at(c), at(c))
	needs(t, "a chain with a gap and a way round", []impl.Drv{a, c, side, top}, at(top), addressesOf(a, c, side, top)...)
	two := impl.Drv{Name: "two", Outputs: []string{"doc", "out"}}
	uses := impl.Drv{Name: "uses", Outputs: []string{"out"}, Inputs: []impl.Uses{{Drv: at(two), Output: "doc"}, {Drv: at(two), Output: "out"}}}
	needs(t, "two outputs of one", []impl.Drv{uses, two, alone}, at(uses), addressesOf(uses, two)...)
	source := impl.Drv{Name: "source", Outputs: []string{"out"}, Sources: []string{at(a)}, Env: []impl.Pair{{Key: "k", Value: at(b)}}}
	needs(t, "what is a source alone", []impl.Drv{source, a, b}, at(source), at(source))
	missing := impl.Drv{Name: "missing", Outputs: []string{"out"}, Inputs: []impl.Uses{{Drv: at(two), Output: "nope"}}}
	needs(t, "an output that is not there", []impl.Drv{missing, two}, at(missing), addressesOf(missing, two)...)
}

func TestInputsOfListsThatCannotBe(t *testing.T) {
	a := needing("a")
	b := needing("b", a)
	at := impl.DrvAddress
	needs(t, "one twice", []impl.Drv{a, b, a}, at(a))
	needs(t, "one twice, another asked for", []impl.Drv{a, b, a}, at(b))
	needs(t, "two in a row", []impl.Drv{a, a}, at(a))
	needs(t, "two with one address by what is fixed", []impl.Drv{fixedAt("f"), fixedAt("f", at(a)), a}, at(a))
	other := fixedAt("f")
	other.Fixed = "1123456789abc"
	needs(t, "two fixed in different ways", []impl.Drv{fixedAt("f"), other}, at(other), at(other))
	for what, d := range map[string]impl.Drv{
		"zero": {}, "no name": {Outputs: []string{"out"}}, "no output": {Name: "x"}, "a long name": {Name: strings.Repeat("n", 57), Outputs: []string{"out"}},
		"a wrong builder": {Name: "x", Builder: "\t", Outputs: []string{"out"}}, "outputs not ascending": {Name: "x", Outputs: []string{"b", "a"}},
	} {
		needs(t, what, []impl.Drv{a, b, d}, at(b))
		needs(t, what+", asked for", []impl.Drv{a, b, d}, "")
	}
	needs(t, "a name as long as can be", []impl.Drv{a, b, needing(strings.Repeat("n", 56))}, at(b), addressesOf(a, b)...)
}

// What is fixed may need what needs it, since its address says nothing of its inputs.
func TestInputsOfCircles(t *testing.T) {
	at := impl.DrvAddress
	names := []string{}
	for _, name := range []string{"a", "b", "c", "d"} {
		names = append(names, at(fixedAt(name)))
	}
	self := fixedAt("a", names[0])
	needs(t, "one that needs itself", []impl.Drv{self}, names[0], names[0])
	a, b, c := fixedAt("a", names[1]), fixedAt("b", names[2]), fixedAt("c", names[0], names[3])
	ring := []impl.Drv{a, b, c}
	for i := range ring {
		needs(t, "a ring", ring, names[i], names[:3]...)
	}
	plain := needing("plain", a)
	needs(t, "what leads into a ring", append(ring, plain), at(plain), append([]string{at(plain)}, names[:3]...)...)
	needs(t, "a ring with more behind it", append(ring, fixedAt("d"), plain), names[1], names[0], names[1], names[2], names[3])
	pair := []impl.Drv{fixedAt("a", names[0], names[1]), fixedAt("b", names[0], names[1]), fixedAt("c", names[1])}
	needs(t, "a pair", pair, names[1], names[:2]...)
	needs(t, "what leads into a pair", pair, names[2], names[:3]...)
}

func TestInputsOfMaxMany(t *testing.T) {
	chain := []impl.Drv{needing("n0")}
	for n := range impl.MaxMany {
		chain = append(chain, needing(fmt.Sprint("n", n+1), chain[n]))
	}
	all := addressesOf(chain...)
	needs(t, "a chain of MaxMany", chain[:impl.MaxMany], all[impl.MaxMany-1], slices.Clone(all[:impl.MaxMany])...)
	needs(t, "the half of MaxMany", chain[:impl.MaxMany], all[999], slices.Clone(all[:1000])...)
	needs(t, "MaxMany and one more", chain, all[impl.MaxMany])
	needs(t, "MaxMany and one more, the first", chain, all[0])
	wide := []impl.Drv{}
	for n := range impl.MaxMany - 1 {
		wide = append(wide, needing(fmt.Sprint("w", n)))
	}
	top := needing("top", wide...)
	needs(t, "one that needs all others", append(wide, top), impl.DrvAddress(top), addressesOf(append(wide, top)...)...)
}

// All of fixed ones, where each needs any others.
func TestInputsOfRandomOnes(t *testing.T) {
	m := rand.New(rand.NewSource(3))
	for range 300 {
		many := 1 + m.Intn(12)
		names := []string{}
		for n := range many + 3 {
			names = append(names, impl.DrvAddress(fixedAt(fmt.Sprint("d", n))))
		}
		list := []impl.Drv{}
		uses := map[string][]string{}
		for n := range many {
			used := []string{}
			for _, name := range names {
				if m.Intn(many+3) == 0 {
					used = append(used, name)
				}
			}
			uses[names[n]] = used
			list = append(list, fixedAt(fmt.Sprint("d", n), used...))
		}
		for _, address := range names {
			needs(t, "random ones", list, address, plainNeeds(uses, address)...)
		}
	}
}

// plainNeeds adds what is used till nothing new comes.
func plainNeeds(uses map[string][]string, address string) []string {
	found := map[string]bool{address: true}
	for range uses {
		for user, used := range uses {
			for _, other := range used {
				found[other] = found[other] || found[user]
			}
		}
	}
	needed := []string{}
	for one := range uses {
		if found[one] {
			needed = append(needed, one)
		}
	}
	return needed
}

// roomyDrv has room behind each of its lists.
func roomyDrv(d impl.Drv) (impl.Drv, func() bool) {
	var stay [4]func() bool
	d.Outputs, stay[0] = roomy(d.Outputs, "room")
	d.Env, stay[1] = roomy(d.Env, impl.Pair{Key: "room"})
	d.Inputs, stay[2] = roomy(d.Inputs, impl.Uses{Drv: "room"})
	d.Sources, stay[3] = roomy(d.Sources, "room")
	return d, func() bool { return stay[0]() && stay[1]() && stay[2]() && stay[3]() }
}

func TestDrvArgumentsStay(t *testing.T) {
	unordered := wholeDrv()
	slices.Reverse(unordered.Outputs)
	slices.Reverse(unordered.Env)
	for _, d := range []impl.Drv{wholeDrv(), fixedDrv(), unordered, {}} {
		d, stays := roomyDrv(d)
		impl.DrvOk(d)
		impl.DrvText(d)
		impl.DrvAddress(d)
		impl.OutPath(d, "out")
		impl.OutPath(d, "doc")
		whole := make([]impl.Drv, 8)
		whole[0], whole[1], whole[7] = d, needing("a"), impl.Drv{Name: "room"}
		impl.InputsOf(whole[:2], impl.DrvAddress(d))
		impl.InputsOf(whole[:3], impl.DrvAddress(d))
		if !stays() || !sameDrv(whole[0], d) || !sameDrv(whole[1], needing("a")) || !reflect.DeepEqual(whole[2], impl.Drv{}) || whole[7].Name != "room" {
			t.Errorf("written into %+v", d)
		}
	}
}

func TestDrvAnswersAreNewMemory(t *testing.T) {
	first, _ := impl.ReadDrv(wholeText)
	second, _ := impl.ReadDrv(wholeText)
	for _, overwrite := range []func(d impl.Drv){
		func(d impl.Drv) { clear(d.Outputs[:cap(d.Outputs)]) },
		func(d impl.Drv) { clear(d.Env[:cap(d.Env)]) },
		func(d impl.Drv) { clear(d.Inputs[:cap(d.Inputs)]) },
		func(d impl.Drv) { clear(d.Sources[:cap(d.Sources)]) },
	} {
		third, ok := impl.ReadDrv(wholeText)
		overwrite(first)
		if !ok || !sameDrv(second, wholeDrv()) || !sameDrv(third, wholeDrv()) {
			t.Error("two answers share memory")
		}
		overwrite(third)
		wrong := 0
		for _, same := range []bool{slices.Equal(third.Outputs, second.Outputs), slices.Equal(third.Env, second.Env), slices.Equal(third.Inputs, second.Inputs), slices.Equal(third.Sources, second.Sources)} {
			if !same {
				wrong++
			}
		}
		if wrong != 1 {
			t.Errorf("two lists of one answer share memory: %+v", third)
		}
	}
	a := needing("a")
	list := []impl.Drv{a, needing("b", a)}
	address := impl.DrvAddress(list[1])
	needed := impl.InputsOf(list, address)
	again := impl.InputsOf(list, address)
	clear(needed[:cap(needed)])
	if want := addressesOf(list...); len(again) != 2 || !slices.Contains(again, want[0]) || !slices.Contains(again, want[1]) || !slices.Equal(again, impl.InputsOf(list, address)) {
		t.Error("two answers share memory:", again)
	}
}
