package tests

import (
	"slices"
	"strings"
	"testing"

	"loop.example/g00023/impl"
)

const builtinsInOrder = "at deep derive false filter fold head import join kind length map mapSet names null number part seq size sort tail text throw toSet true without"

func TestBuiltinNames(t *testing.T) {
	want := strings.Fields(builtinsInOrder)
	got := impl.BuiltinNames()
	if !slices.Equal(got, want) {
		t.Error(got)
	}
	clear(got[:cap(got)])
	if !slices.Equal(impl.BuiltinNames(), want) {
		t.Error("a list that was handed out is still in use")
	}
	for _, name := range want {
		text := "<function>"
		if name == "true" || name == "false" || name == "null" {
			text = name
		}
		worth(t, []worthRow{{name, text, 1}, {"with {" + name + " = 0; }; " + name, text, 2}, {"let " + name + " = 0; in " + name, "0", 3}})
	}
}

func TestLengthHeadTailAndAt(t *testing.T) {
	worth(t, []worthRow{
		{"length []", "0", 3},
		{"length [nope 1]", "2", 3},
		{"head [1 nope]", "1", 4},
		{"head [[nope]] == 1", "false", 6},
		{"tail [nope 2]", "[2]", 4},
		{"tail [1]", "[]", 3},
		{"length (tail [nope nope nope])", "2", 5},
		{"at [1 2] 0", "1", 6},
		{"at [1 2] 1", "2", 6},
		{"at [nope 1] 1", "1", 6},
		{"at [1]", "<function>", 2},
		{"at nope", "<function>", 2},
		{"let l = [1 2 3]; in [(tail l) (tail (tail l)) l]", "[[2 3] [3] [1 2 3]]", 15},
	})
	faults(t, []faultRow{
		{"length 1", impl.EvType, 3},
		{"length \"a\"", impl.EvType, 3},
		{"length {}", impl.EvType, 3},
		{"length nope", impl.EvName, 3},
		{"head []", impl.EvArg, 3},
		{"head [nope]", impl.EvName, 4},
		{"head \"ab\"", impl.EvType, 3},
		{"tail []", impl.EvArg, 3},
		{"tail {}", impl.EvType, 3},
		{"tail (tail [1])", impl.EvArg, 5},
		{"at [1 2] 2", impl.EvArg, 5},
		{"at [] 0", impl.EvArg, 5},
		{"at [1] (-1)", impl.EvArg, 6},
		{"at [1] 9007199254740992", impl.EvArg, 5},
		{"at 1 nope", impl.EvType, 4},
		{"at [1] nope", impl.EvName, 5},
		{"at [1] \"0\"", impl.EvType, 5},
		{"at [nope] 0", impl.EvName, 6},
		{"at nope 1", impl.EvName, 4},
		{"at [length] 0 1", impl.EvType, 8},
	})
}

func TestMap(t *testing.T) {
	worth(t, []worthRow{
		{"map (x: x * x) [1 2 3]", "[1 4 9]", 17},
		{"map (x: nope) []", "[]", 5},
		{"length (map (x: nope) [1 2])", "2", 7},
		{"map length [[] [1]]", "[0 1]", 7},
		{"let m = map (x: x + 1) [1 2]; in [(head m) (head m)]", "[2 2]", 17},
		{"map (x: y: x) [1]", "[<function>]", 6},
		{"map (x: 1) [nope nope]", "[1 1]", 7},
		{"map ({a}: a) [{a = 1; }]", "[1]", 8},
		{"map (at [5 6]) [1 0]", "[6 5]", 11},
		{"map (map (x: x + 1)) [[1] [2 3]]", "[[2] [3 4]]", 21},
		{"let l = [1 2]; in [(map text l) l]", "[[\"1\" \"2\"] [1 2]]", 11},
	})
	faults(t, []faultRow{
		{"map 1 nope", impl.EvType, 4},
		{"map length 1", impl.EvType, 5},
		{"map length {}", impl.EvType, 5},
		{"map nope []", impl.EvName, 4},
		{"map length nope", impl.EvName, 5},
		{"map length [1]", impl.EvType, 6},
		{"map (x: x + 1) [1 nope]", impl.EvName, 12},
		{"let l = map (x: head l) [1]; in l", impl.EvLoop, 10},
	})
}

func TestFilter(t *testing.T) {
	worth(t, []worthRow{
		{"filter (x: x > 1) [3 1 2]", "[3 2]", 17},
		{"filter (x: nope) []", "[]", 5},
		{"filter (x: x) [true false true]", "[true true]", 11},
		{"length (filter (x: true) [nope nope])", "2", 9},
		{"length (filter (x: false) [nope])", "0", 8},
		{"filter (x: false) [1 2]", "[]", 7},
		{"let l = [1 2]; in [(filter (x: x == 2) l) l]", "[[2] [1 2]]", 17},
	})
	faults(t, []faultRow{
		{"filter (x: 1) [1]", impl.EvType, 6},
		{"filter (x: null) [1]", impl.EvType, 6},
		{"filter (x: nope) [1]", impl.EvName, 6},
		{"filter (x: if x == 1 then null else nope) [1 2]", impl.EvType, 11},
		{"filter (x: if x == 1 then nope else null) [1 2]", impl.EvName, 11},
		{"filter 1 nope", impl.EvType, 4},
		{"filter length {}", impl.EvType, 5},
		{"filter nope nope", impl.EvName, 4},
		{"filter (x: true) [nope]", impl.EvName, 7},
	})
}

func TestFold(t *testing.T) {
	worth(t, []worthRow{
		{"fold (a: b: a + b) 0 [1 2 3]", "6", 22},
		{"fold (a: b: a - b) 10 [1 2]", "7", 17},
		{"fold (a: b: b - a) 10 [1 2]", "11", 17},
		{"fold (a: b: b) nope [1]", "1", 9},
		{"fold (a: b: a + 1) 0 [nope nope]", "2", 15},
		{"fold length 5 []", "5", 7},
		{"fold (a: b: [a]) 0 [1 1]", "[[0]]", 13},
		{"fold at [[1 2] [3 4]] [1 0]", "3", 11},
		{"let add = fold (a: b: a + b) 0; in [(add [1]) (add [2 3])]", "[1 5]", 28},
		{"fold (a: b: a + b) \"\" [\"x\" \"y\"]", "\"xy\"", 17},
	})
	faults(t, []faultRow{
		{"fold nope 0 []", impl.EvName, 5},
		{"fold 1 nope nope", impl.EvType, 5},
		{"fold length nope 1", impl.EvType, 6},
		{"fold length (1 / 0) nope", impl.EvName, 6},
		{"fold length nope []", impl.EvName, 7},
		{"fold (a: 1) 0 [2]", impl.EvType, 7},
		{"fold (a: b: nope) 0 [1 2]", impl.EvName, 8},
		{"fold (a: b: if b == 1 then 1 / 0 else nope) 0 [1 2]", impl.EvZero, 15},
		{"fold (a: b: a + b) 0 [1 \"a\"]", impl.EvType, 17},
		{"fold (a: b: a) nope [1]", impl.EvName, 9},
	})
}

func TestNamesAndMapSet(t *testing.T) {
	worth(t, []worthRow{
		{"names {b = nope; a = 1; }", "[\"a\" \"b\"]", 3},
		{"names {}", "[]", 3},
		{"names {b = 1; B = 2; _ = 3; b' = 4; }", "[\"B\" \"_\" \"b\" \"b'\"]", 3},
		{"mapSet (n: v: [n v]) {b = 1; a = 2; }", "{a = [\"a\" 2]; b = [\"b\" 1]; }", 15},
		{"names (mapSet (n: nope) {a = 1; })", "[\"a\"]", 7},
		{"mapSet (n: v: 1) {}", "{}", 5},
		{"(mapSet (n: v: n) {a = nope; }).a", "\"a\"", 8},
		{"let m = mapSet (n: v: v + 1) {a = 1; }; in [m.a m.a]", "[2 2]", 16},
		{"mapSet (n: length) {a = [nope]; }", "{a = 1; }", 7},
	})
	faults(t, []faultRow{
		{"names []", impl.EvType, 3},
		{"names nope", impl.EvName, 3},
		{"mapSet 1 nope", impl.EvType, 4},
		{"mapSet length []", impl.EvType, 5},
		{"mapSet nope {}", impl.EvName, 4},
		{"mapSet (n: 1) {a = 2; }", impl.EvType, 6},
		{"mapSet (n: v: v) {a = nope; }", impl.EvName, 8},
	})
}

func TestToSet(t *testing.T) {
	word := strings.Repeat("w", 60)
	worth(t, []worthRow{
		{"names (toSet [{name = \"b\"; value = nope; } {name = \"a\"; value = 1; }])", "[\"a\" \"b\"]", 9},
		{"toSet [{name = \"a\"; value = 1; } {name = \"a\"; value = 2; }]", "{a = 2; }", 8},
		{"toSet [{name = \"a\"; value = nope; } {name = \"a\"; value = 2; }]", "{a = 2; }", 8},
		{"toSet []", "{}", 3},
		{"toSet [{name = \"a\"; value = 1; more = nope; }]", "{a = 1; }", 6},
		{"toSet [{name = \"true\"; value = 1; }]", "{true = 1; }", 6},
		{"toSet [{name = \"" + word + "\"; value = 1; }]", "{" + word + " = 1; }", 6},
		{"toSet (map (n: {name = n; value = n; }) [\"c\" \"b\" \"a\"])", "{a = \"a\"; b = \"b\"; c = \"c\"; }", 19},
	})
	faults(t, []faultRow{
		{"toSet {}", impl.EvType, 3},
		{"toSet [1]", impl.EvType, 4},
		{"toSet [[]]", impl.EvType, 4},
		{"toSet [{}]", impl.EvAttr, 4},
		{"toSet [{value = 1; }]", impl.EvAttr, 4},
		{"toSet [{name = \"a\"; }]", impl.EvAttr, 4},
		{"toSet [{name = 1; value = 2; }]", impl.EvType, 5},
		{"toSet [{name = nope; value = 2; }]", impl.EvName, 5},
		{"toSet [{name = \"1\"; value = 2; } nope]", impl.EvArg, 5},
		{"toSet [{name = \"a\"; value = 1; } nope]", impl.EvName, 6},
		{"toSet [{name = \"a\"; value = 1; } 1]", impl.EvType, 6},
		{"toSet nope", impl.EvName, 3},
	})
	for _, name := range append(strings.Fields(keywordsInOrder), "", "a b", "a.b", "-a", "'", " a", "a+", word+"w") {
		faults(t, []faultRow{{"toSet [{name = \"" + name + "\"; value = 2; }]", impl.EvArg, 5}})
	}
}

func TestWithout(t *testing.T) {
	worth(t, []worthRow{
		{"without {a = nope; b = 2; c = 3; } [\"c\" \"a\" \"z\"]", "{b = 2; }", 9},
		{"without {} []", "{}", 5},
		{"without {a = 1; } []", "{a = 1; }", 6},
		{"without {a = 1; } [\"a\"]", "{}", 6},
		{"without {a = 1; } [\"a\" \"a\"]", "{}", 7},
		{"without {a = 1; } [\"\" \"A\" \"let\"]", "{a = 1; }", 9},
		{"let s = {a = 1; b = 2; }; in [(without s [\"a\"]) s]", "[{b = 2; } {a = 1; b = 2; }]", 12},
	})
	faults(t, []faultRow{
		{"without 1 nope", impl.EvType, 4},
		{"without {} 1", impl.EvType, 5},
		{"without {} {}", impl.EvType, 5},
		{"without {} [1]", impl.EvType, 6},
		{"without {} [\"a\" 1 nope]", impl.EvType, 7},
		{"without {} [nope 1]", impl.EvName, 6},
		{"without nope []", impl.EvName, 4},
	})
}

func TestJoin(t *testing.T) {
	worth(t, []worthRow{
		{"join \", \" [\"a\" \"b\" \"c\"]", "\"a, b, c\"", 8},
		{"join \"x\" []", "\"\"", 5},
		{"join \"x\" [\"a\"]", "\"a\"", 6},
		{"join \"x\" [\"\"]", "\"\"", 6},
		{"join \"x\" [\"\" \"\"]", "\"x\"", 7},
		{"join \"\" [\"a\" \"\" \"b\"]", "\"ab\"", 8},
	})
	faults(t, []faultRow{
		{"join 1 nope", impl.EvType, 4},
		{"join \"\" 1", impl.EvType, 5},
		{"join \"\" \"a\"", impl.EvType, 5},
		{"join \"\" [1]", impl.EvType, 6},
		{"join \"\" [\"a\" 1 nope]", impl.EvType, 7},
		{"join \"\" [\"a\" nope 1]", impl.EvName, 7},
		{"join nope []", impl.EvName, 4},
	})
}

func TestSizeAndPart(t *testing.T) {
	worth(t, []worthRow{
		{"size \"abc\"", "3", 3},
		{"size \"\"", "0", 3},
		{"size \"\\n\\t\\\"\\\\\"", "4", 3},
		{"size \"\xc3\xa9\"", "2", 3},
		{"part \"hello\" 1 3", "\"ell\"", 7},
		{"part \"hello\" 0 5", "\"hello\"", 7},
		{"part \"hello\" 0 0", "\"\"", 7},
		{"part \"hello\" 5 0", "\"\"", 7},
		{"part \"hello\" 5 1", "\"\"", 7},
		{"part \"hello\" 4 1", "\"o\"", 7},
		{"part \"hello\" 3 100", "\"lo\"", 7},
		{"part \"hello\" 1 9007199254740992", "\"ello\"", 7},
		{"part \"\" 0 0", "\"\"", 7},
		{"part \"\xc3\xa9\" 1 1", "\"\xa9\"", 7},
		{"let p = part \"hello\"; q = p 1; r = p 2; in [(q 1) (r 2) (q 3)]", "[\"e\" \"ll\" \"ell\"]", 20},
	})
	faults(t, []faultRow{
		{"size 1", impl.EvType, 3},
		{"size []", impl.EvType, 3},
		{"size nope", impl.EvName, 3},
		{"part \"hello\" 6 0", impl.EvArg, 7},
		{"part \"hello\" (-1) 2", impl.EvArg, 8},
		{"part \"hello\" 0 (-1)", impl.EvArg, 8},
		{"part \"\" 1 0", impl.EvArg, 7},
		{"part \"a\" 9007199254740992 9007199254740992", impl.EvArg, 7},
		{"part 1 nope nope", impl.EvType, 5},
		{"part \"a\" nope 1", impl.EvName, 6},
		{"part \"a\" \"0\" nope", impl.EvType, 6},
		{"part \"a\" 0 \"1\"", impl.EvType, 7},
		{"part \"a\" 7 nope", impl.EvName, 7},
		{"part nope 1 1", impl.EvName, 5},
	})
}

func TestTextAndNumber(t *testing.T) {
	worth(t, []worthRow{
		{"text \"a\"", "\"a\"", 3},
		{"text \"\"", "\"\"", 3},
		{"text 5", "\"5\"", 3},
		{"text (-5)", "\"-5\"", 4},
		{"text 0", "\"0\"", 3},
		{"text 9007199254740992", "\"9007199254740992\"", 3},
		{"text true", "\"true\"", 3},
		{"text false", "\"false\"", 3},
	})
	faults(t, []faultRow{
		{"text null", impl.EvType, 3},
		{"text []", impl.EvType, 3},
		{"text {}", impl.EvType, 3},
		{"text length", impl.EvType, 3},
		{"text nope", impl.EvName, 3},
		{"number 1", impl.EvType, 3},
		{"number null", impl.EvType, 3},
		{"number nope", impl.EvName, 3},
	})
	for s, n := range map[string]string{
		"12": "12", "-12": "-12", "007": "7", "-0": "0", "0": "0", "9007199254740992": "9007199254740992",
		"-9007199254740992": "-9007199254740992", strings.Repeat("0", 3999) + "8": "8", "9": "9",
	} {
		worth(t, []worthRow{{"number \"" + s + "\"", n, 3}})
	}
	for _, s := range []string{"", "-", "--1", "+1", " 1", "1 ", "1.0", "a", "1-", "0x1", "1e3", "1_0", "-a", "- 1", "\xd9\xa1"} {
		faults(t, []faultRow{{"number \"" + s + "\"", impl.EvArg, 3}})
	}
	for _, s := range []string{"9007199254740993", "-9007199254740993", "18446744073709551616", strings.Repeat("9", 4000)} {
		faults(t, []faultRow{{"number \"" + s + "\"", impl.EvRange, 3}})
	}
}

func TestKind(t *testing.T) {
	for src, kind := range map[string]string{
		"1": "number", "true": "bool", "false": "bool", "\"\"": "text", "[nope]": "list", "{}": "set", "null": "null",
		"length": "function", "(x: x)": "function", "({}: 1)": "function",
	} {
		worth(t, []worthRow{{"kind " + src, "\"" + kind + "\"", 3}})
	}
	worth(t, []worthRow{{"kind (at [])", "\"function\"", 4}})
	faults(t, []faultRow{{"kind nope", impl.EvName, 3}, {"kind (1 / 0)", impl.EvZero, 5}})
}

func TestImport(t *testing.T) {
	worth(t, []worthRow{
		{"import \"seven\"", "7", 6},
		{"[(import \"seven\") (import \"seven\")]", "[7 7]", 10},
		{"(import \"set\").a", "3", 8},
		{"(import \"set\").f 4", "5", 14},
		{"(import \"set\").f ((import \"set\").f 4)", "6", 22},
		{"import \"inc\"", "<function>", 4},
		{"import \"knot\"", "{a = 5; b = 5; }", 9},
		{"let i = import; in i \"seven\"", "7", 8},
		{"import (\"se\" + \"ven\")", "7", 8},
		{"let x = import \"faulty\"; in 1", "1", 2},
		{"map import [\"seven\" \"seven\"]", "[7 7]", 10},
		{"let a = import \"set\"; b = import \"set\"; in [a.a b.a]", "[3 3]", 16},
	})
	faults(t, []faultRow{
		{"import \"circle\"", impl.EvLoop, 6},
		{"import \"loop1\"", impl.EvLoop, 9},
		{"import \"broken\"", impl.EvImport, 3},
		{"import \"nothere\"", impl.EvImport, 3},
		{"import \"\"", impl.EvImport, 3},
		{"import \"seve\"", impl.EvImport, 3},
		{"import \"sevens\"", impl.EvImport, 3},
		{"import 1", impl.EvType, 3},
		{"import nope", impl.EvName, 3},
		{"import \"free\"", impl.EvName, 4},
		{"let outside = 1; in import \"free\"", impl.EvName, 5},
		{"with {outside = 1; }; import \"free\"", impl.EvName, 5},
		{"(outside: import \"free\") 1", impl.EvName, 6},
	})
	throws(t, []worthRow{{"import \"faulty\"", "from the file", 6}})
}

func TestImportOfWhatIsNamed(t *testing.T) {
	many := []impl.File{}
	for i := range 100 {
		name := "f" + string(rune('a'+i/26)) + string(rune('a'+i%26))
		many = append(many, impl.File{Name: name, Text: "\"" + name + "\""})
	}
	for _, file := range many {
		if a := impl.Eval("import \""+file.Name+"\"", many, 4); a.Code != impl.EvOk || a.Text != file.Text || a.Steps != 4 {
			t.Error(file.Name, shown(a))
		}
	}
	for _, name := range []string{"a", "f", "faa-", "fdw", "fzz", "zzz"} {
		if a := impl.Eval("import \""+name+"\"", many, 9); a.Code != impl.EvImport || a.Steps != 3 {
			t.Error(name, shown(a))
		}
	}
	long := []impl.File{{Name: "long", Text: strings.Repeat(" ", 19999) + "1"}, {Name: "longer", Text: strings.Repeat(" ", 20000) + "1"}}
	if a := impl.Eval("import \"long\"", long, 9); a.Code != impl.EvOk || a.Text != "1" {
		t.Error(shown(a))
	}
	if a := impl.Eval("import \"longer\"", long, 9); a.Code != impl.EvImport {
		t.Error(shown(a))
	}
}

func TestSeqAndDeep(t *testing.T) {
	worth(t, []worthRow{
		{"seq 1 2", "2", 5},
		{"seq [nope] 2", "2", 5},
		{"seq nope", "<function>", 2},
		{"seq length 2", "2", 5},
		{"let x = 1 + 2; in seq x x", "3", 9},
		{"deep [1 [2]] 3", "3", 8},
		{"deep {b = 1; a = {c = [2]; }; } 3", "3", 9},
		{"deep [] 2", "2", 5},
		{"deep length 1", "1", 5},
		{"deep (x: nope) 1", "1", 5},
		{"let l = [(1 + 2)]; in deep l l", "[3]", 10},
		{"let l = [(1 + 2)]; in [(deep l 1) (deep l 2)]", "[1 2]", 16},
	})
	faults(t, []faultRow{
		{"seq nope 2", impl.EvName, 4},
		{"seq 1 nope", impl.EvName, 5},
		{"seq (1 / 0) nope", impl.EvZero, 6},
		{"deep [nope] 2", impl.EvName, 5},
		{"deep {a = {b = nope; }; } 2", impl.EvName, 6},
		{"deep {b = nope; a = [1 (1 / 0)]; } 2", impl.EvZero, 9},
		{"deep 1 nope", impl.EvName, 5},
		{"deep [1 (1 / 0)] nope", impl.EvZero, 8},
		{"deep nope 1", impl.EvName, 4},
	})
}

func TestSort(t *testing.T) {
	worth(t, []worthRow{
		{"sort [3 1 2]", "[1 2 3]", 6},
		{"sort []", "[]", 3},
		{"sort [1]", "[1]", 4},
		{"sort [2 1 2 1]", "[1 1 2 2]", 7},
		{"sort [\"b\" \"a\" \"\"]", "[\"\" \"a\" \"b\"]", 6},
		{"sort [\"10\" \"9\" \"a\" \"Z\" \"ab\"]", "[\"10\" \"9\" \"Z\" \"a\" \"ab\"]", 8},
		{"sort [2 (-1) 10]", "[-1 2 10]", 7},
		{"let l = [2 1]; in [(sort l) l]", "[[1 2] [2 1]]", 9},
	})
	faults(t, []faultRow{
		{"sort 1", impl.EvType, 3},
		{"sort {}", impl.EvType, 3},
		{"sort nope", impl.EvName, 3},
		{"sort [1 \"a\" nope]", impl.EvType, 5},
		{"sort [\"a\" 1 nope]", impl.EvType, 5},
		{"sort [true]", impl.EvType, 4},
		{"sort [null nope]", impl.EvType, 4},
		{"sort [[1]]", impl.EvType, 4},
		{"sort [1 2 true]", impl.EvType, 6},
		{"sort [1 nope]", impl.EvName, 5},
		{"sort [1 (1 / 0) nope]", impl.EvZero, 7},
	})
}
