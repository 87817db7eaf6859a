package tests

import (
	"fmt"
	"reflect"
	"slices"
	"strings"
	"testing"

	"loop.example/g00023/impl"
)

// shelf is the library of most tests of Eval.
var shelf = []impl.File{
	{Name: "broken", Text: "("},
	{Name: "circle", Text: "import \"circle\""},
	{Name: "faulty", Text: "throw \"from the file\""},
	{Name: "free", Text: "outside"},
	{Name: "inc", Text: "x: x + 1"},
	{Name: "knot", Text: "rec { a = (import \"knot\").b; b = 5; }"},
	{Name: "loop1", Text: "import \"loop2\""},
	{Name: "loop2", Text: "import \"loop1\""},
	{Name: "set", Text: "{ a = 1 + 2; f = import \"inc\"; }"},
	{Name: "seven", Text: "3 + 4"},
}

func shown(a impl.Answer) string {
	if len(a.Text) > 300 {
		a.Text = a.Text[:300] + ".."
	}
	return fmt.Sprintf("code %d, text %s, context %q, steps %d, thrown %q, %d drvs", a.Code, a.Text, a.Context, a.Steps, a.Thrown, len(a.Drvs))
}

func sameAnswer(a, b impl.Answer) bool {
	return a.Code == b.Code && a.Text == b.Text && slices.Equal(a.Context, b.Context) && a.Steps == b.Steps && a.Thrown == b.Thrown &&
		slices.EqualFunc(a.Drvs, b.Drvs, func(a, b impl.Drv) bool { return reflect.DeepEqual(a, b) })
}

// paid asks with a budget of just the steps that it should cost, and with one less; and likewise what it is shown as.
func paid(t *testing.T, src string, want impl.Answer) {
	t.Helper()
	whole := impl.Eval(src, shelf, impl.MaxBudget)
	want.Drvs = whole.Drvs
	if !sameAnswer(whole, want) {
		t.Errorf("%.300s\n is   %s\n not  %s", src, shown(whole), shown(want))
		return
	}
	if just := impl.Eval(src, shelf, want.Steps); !sameAnswer(just, want) {
		t.Errorf("%.300s\n with a budget of just %d is %s", src, want.Steps, shown(just))
	}
	if want.Steps > 0 {
		less := impl.Eval(src, shelf, want.Steps-1)
		if less.Code != impl.EvBudget || less.Text != "" || len(less.Context) != 0 || less.Steps != want.Steps-1 || less.Thrown != "" {
			t.Errorf("%.300s\n with a budget of %d is %s", src, want.Steps-1, shown(less))
		}
	}
	es, _ := impl.Parse(src)
	if again := impl.Show(es); len(es) > 0 && len(again) <= impl.MaxSource {
		if got := impl.Eval(again, shelf, impl.MaxBudget); !sameAnswer(got, want) {
			t.Errorf("%.300s\n shown as %.300s is %s", src, again, shown(got))
		}
	}
}

type worthRow struct {
	src   string
	text  string
	steps int64
}

type faultRow struct {
	src   string
	code  int64
	steps int64
}

func worth(t *testing.T, rows []worthRow) {
	t.Helper()
	for _, row := range rows {
		paid(t, row.src, impl.Answer{Text: row.text, Steps: row.steps})
	}
}

// faults is for all codes but EvThrow, which has a text.
func faults(t *testing.T, rows []faultRow) {
	t.Helper()
	for _, row := range rows {
		paid(t, row.src, impl.Answer{Code: row.code, Steps: row.steps})
	}
}

// throws is for expressions that come to `throw "!"`.
func throws(t *testing.T, rows []worthRow) {
	t.Helper()
	for _, row := range rows {
		paid(t, row.src, impl.Answer{Code: impl.EvThrow, Thrown: row.text, Steps: row.steps})
	}
}

func TestLimitsAndCodesOfEval(t *testing.T) {
	if impl.MaxParts != 2000 || impl.MaxFiles != 100 || impl.MaxBudget != 50000 || impl.MaxAnswer != 20000 {
		t.Error("limits")
	}
	codes := []int64{impl.EvOk, impl.EvArgs, impl.EvBudget, impl.EvLoop, impl.EvType, impl.EvName, impl.EvAssert, impl.EvAttr,
		impl.EvArg, impl.EvRange, impl.EvZero, impl.EvThrow, impl.EvImport, impl.EvParse, impl.EvDrv}
	for i, code := range codes {
		if code != int64(i) {
			t.Error("code", i, "is", code)
		}
	}
}

func TestEvalOfNumbersTextsAndNames(t *testing.T) {
	worth(t, []worthRow{
		{"0", "0", 1},
		{"9007199254740992", "9007199254740992", 1},
		{"-9007199254740992", "-9007199254740992", 2},
		{`""`, `""`, 1},
		{`"a \n\t\"\\ b"`, `"a \n\t\"\\ b"`, 1},
		{"\"\xff\xc3\xa9\"", "\"\xff\xc3\xa9\"", 1},
		{"true", "true", 1},
		{"false", "false", 1},
		{"null", "null", 1},
		{"length", "<function>", 1},
		{"# a note\n 1", "1", 1},
	})
	faults(t, []faultRow{
		{"nope", impl.EvName, 1},
		{"(nope)", impl.EvName, 1},
		{"True", impl.EvName, 1},
		{"", impl.EvParse, 0},
		{"(", impl.EvParse, 0},
		{"1 +", impl.EvParse, 0},
		{"let", impl.EvParse, 0},
		{"\"a", impl.EvParse, 0},
		{"9007199254740993", impl.EvParse, 0},
		{"1 }", impl.EvParse, 0},
		{strings.Repeat(" ", 20000) + "1", impl.EvParse, 0},
	})
	worth(t, []worthRow{{strings.Repeat(" ", 19999) + "1", "1", 1}})
}

func TestEvalOfListsAndSets(t *testing.T) {
	worth(t, []worthRow{
		{"[]", "[]", 1},
		{"[1 2]", "[1 2]", 3},
		{"[[] [[]]]", "[[] [[]]]", 4},
		{"[(x: x) {} \"\"]", "[<function> {} \"\"]", 4},
		{"{}", "{}", 1},
		{"rec {}", "{}", 1},
		{"{b = 1; a = 2; }", "{a = 2; b = 1; }", 3},
		{"{a = 1; B = 2; b = 3; _ = 4; a' = 5; a-b = 6; a1 = 7; aa = 8; }", "{B = 2; _ = 4; a = 1; a' = 5; a-b = 6; a1 = 7; aa = 8; b = 3; }", 9},
		{"{a = {a = {}; }; }", "{a = {a = {}; }; }", 3},
		{"rec {a = b; b = 1; }", "{a = 1; b = 1; }", 3},
		{"rec {b = a; a = 1; }", "{a = 1; b = 1; }", 3},
		{"rec {a = 1; b = {c = a; d = {a = a; }; }; }", "{a = 1; b = {c = 1; d = {a = 1; }; }; }", 6},
		{"let a = 1; in {a = a; }", "{a = 1; }", 4},
		{"let a = 1; in {a = 2; b = a; }", "{a = 2; b = 1; }", 5},
		{"let a = 1; in rec {a = 2; b = a; }", "{a = 2; b = 2; }", 4},
		{"let true = 1; in true", "1", 3},
		{"let length = 5; in {inherit length; inherit size; }", "{length = 5; size = <function>; }", 5},
	})
	faults(t, []faultRow{
		{"{a = 1; b = a; }", impl.EvName, 3},
		{"[1 nope 2]", impl.EvName, 3},
		{"{b = 1; a = nope; }", impl.EvName, 2},
		{"rec {a = a; }", impl.EvLoop, 2},
		{"rec {a = b; b = a; }", impl.EvLoop, 3},
		{"rec {a = [b]; b = a + 1; }", impl.EvType, 6},
		{"let x = 1; in rec {x = x; }", impl.EvLoop, 3},
	})
}

func TestEvalOfWhatIsInherited(t *testing.T) {
	worth(t, []worthRow{
		{"let x = 1; in {inherit x; }", "{x = 1; }", 4},
		{"let x = 1; y = 2; in {inherit y x; }", "{x = 1; y = 2; }", 6},
		{"let x = 1; in rec {inherit x; y = x; }", "{x = 1; y = 1; }", 5},
		{"let x = 1; in rec {y = x; inherit x; }", "{x = 1; y = 1; }", 5},
		{"let x = 1; in let inherit x; in x", "1", 5},
		{"let x = 1; in let inherit x; y = x; in [y x]", "[1 1]", 8},
		{"let inherit true; in true", "true", 3},
		{"let inherit nope; in 1", "1", 2},
		{"(x: {inherit x; }) 3", "{x = 3; }", 5},
		{"({x}: {inherit x; }) {x = 3; }", "{x = 3; }", 6},
		{"with {x = 4; }; {inherit x; }", "{x = 4; }", 5},
		{"with {x = 4; }; rec {inherit x; y = x; }", "{x = 4; y = 4; }", 6},
		{"{inherit; }", "{}", 1},
	})
	faults(t, []faultRow{
		{"{inherit nope; }", impl.EvName, 2},
		{"rec {inherit x; }", impl.EvName, 2},
		{"rec {inherit x; y = 1; z = {inherit y; }; }.z.x", impl.EvAttr, 4},
		{"rec {x = 1; z = rec {inherit y; }; }.z.y", impl.EvName, 5},
		{"let inherit x; in x", impl.EvName, 3},
		{"let x = let inherit x; in x; in x", impl.EvLoop, 5},
	})
}

func TestEvalOfLet(t *testing.T) {
	worth(t, []worthRow{
		{"let in 5", "5", 2},
		{"let a = 1; b = a + 1; in b * b", "4", 8},
		{"let b = a + 1; a = 1; in b * b", "4", 8},
		{"let x = 1 + 2; in [x x x]", "[3 3 3]", 8},
		{"let a = 1; in let a = 2; in a", "2", 4},
		{"let a = 1; in let b = a; in b", "1", 5},
		{"let a = throw \"!\"; in 1", "1", 2},
		{"let a = a; in 1", "1", 2},
		{"let f = n: if n < 2 then 1 else n * f (n - 1); in f 5", "120", 54},
		{"let even = n: if n == 0 then true else odd (n - 1); odd = n: if n == 0 then false else even (n - 1); in [(even 4) (odd 4)]", "[true false]", 92},
		{"let ones = [1 ones]; in head ones", "1", 6},
		{"let s = {a = 1; b = s.a; }; in s.b", "1", 7},
	})
	faults(t, []faultRow{
		{"let a = a; in a", impl.EvLoop, 3},
		{"let a = b; b = c; c = a; in b", impl.EvLoop, 5},
		{"let a = a + 1; in 1 + a", impl.EvLoop, 6},
		{"let s = {a = s.b; b = s.a; }; in s.a", impl.EvLoop, 8},
		{"let s = s.a; in s", impl.EvLoop, 4},
		{"let a = b; in 1 + a", impl.EvName, 5},
	})
}

func TestEvalOfWith(t *testing.T) {
	worth(t, []worthRow{
		{"with {a = 1; }; a", "1", 4},
		{"with (throw \"!\"); 1", "1", 2},
		{"with 1; true", "true", 2},
		{"with {a = 1; }; with {b = 2; }; [a b]", "[1 2]", 9},
		{"with {a = 1; }; with {a = 2; }; a", "2", 5},
		{"with 1; with {a = 2; }; a", "2", 5},
		{"with {length = 1; }; length", "<function>", 2},
		{"with {null = 1; }; null", "null", 2},
		{"with {length = 1; }; let length = 2; in length", "2", 4},
		{"let a = 1; in with {a = 2; }; a", "1", 4},
		{"(a: with {a = 2; }; a) 1", "1", 5},
		{"({a}: with {a = 2; }; a) {a = 1; }", "1", 6},
		{"rec {a = 1; b = with {a = 2; }; a; }.b", "1", 5},
		{"{a = 1; b = with {a = 2; }; a; }.b", "2", 6},
		{"with {a = 1; }; [a a]", "[1 1]", 6},
		{"with {a = 1; }; x: a", "<function>", 2},
		{"(with {a = 1; }; x: a) 2", "1", 6},
		{"let a = 1; in with {b = a; a = 3; }; b", "1", 6},
		{"let s = with s; {a = 1; b = c; }; c = 2; in s.b", "2", 7},
	})
	faults(t, []faultRow{
		{"with 1; a", impl.EvType, 3},
		{"with null; a", impl.EvType, 3},
		{"with [{a = 1; }]; a", impl.EvType, 3},
		{"with {a = 1; }; with 2; a", impl.EvType, 4},
		{"with {a = 1; }; nope", impl.EvName, 3},
		{"with 1; with {a = 1; }; b", impl.EvType, 5},
		{"with {x = y; y = 2; }; x", impl.EvName, 4},
		{"with a; a", impl.EvName, 3},
		{"let s = with s; a; in s", impl.EvLoop, 5},
		{"(f: with {a = 1; }; f 1) (x: a)", impl.EvName, 7},
	})
}

func TestEvalOfAssertAndIf(t *testing.T) {
	worth(t, []worthRow{
		{"assert true; 1", "1", 3},
		{"assert 1 == 1; 2", "2", 5},
		{"if true then 1 else throw \"!\"", "1", 3},
		{"if false then throw \"!\" else 2", "2", 3},
		{"if true then if false then 1 else 2 else 3", "2", 5},
	})
	faults(t, []faultRow{
		{"assert false; throw \"!\"", impl.EvAssert, 2},
		{"assert 1; throw \"!\"", impl.EvType, 2},
		{"assert null; 1", impl.EvType, 2},
		{"assert \"true\"; 1", impl.EvType, 2},
		{"assert nope; 1", impl.EvName, 2},
		{"assert true; nope", impl.EvName, 3},
		{"if 1 then throw \"!\" else throw \"!\"", impl.EvType, 2},
		{"if null then 1 else 2", impl.EvType, 2},
		{"if [] then 1 else 2", impl.EvType, 2},
		{"if nope then 1 else 2", impl.EvName, 2},
		{"if true then nope else 2", impl.EvName, 3},
		{"if false then 1 else nope", impl.EvName, 3},
	})
}

func TestEvalOfFunctionsOfOneWord(t *testing.T) {
	worth(t, []worthRow{
		{"x: x", "<function>", 1},
		{"x: nope", "<function>", 1},
		{"(x: x) 1", "1", 4},
		{"(x: 1) (throw \"!\")", "1", 3},
		{"(x: 1) nope", "1", 3},
		{"(x: [x x]) (1 + 2)", "[3 3]", 8},
		{"(x: y: x - y) 5 3", "2", 9},
		{"(x: x: x) 1 2", "2", 6},
		{"(x: y: x) 1", "<function>", 3},
		{"(true: true) 1", "1", 4},
		{"(f: f (f 3)) (x: x * 2)", "12", 14},
		{"let x = 1; f = y: x; in (x: f x) 2", "1", 8},
	})
	faults(t, []faultRow{
		{"1 2", impl.EvType, 2},
		{"1 nope", impl.EvType, 2},
		{"\"f\" 2", impl.EvType, 2},
		{"true 2", impl.EvType, 2},
		{"null 2", impl.EvType, 2},
		{"{} 2", impl.EvType, 2},
		{"[(x: x)] 2", impl.EvType, 2},
		{"(x: x) 1 2", impl.EvType, 5},
		{"nope 1", impl.EvName, 2},
		{"(x: y) 1", impl.EvName, 3},
		{"(x: x) nope", impl.EvName, 4},
	})
	if a := impl.Eval("(x: x x) (x: x x)", nil, impl.MaxBudget); a.Code != impl.EvBudget || a.Steps != impl.MaxBudget {
		t.Error(shown(a))
	}
}

func TestEvalOfFunctionsOfASet(t *testing.T) {
	worth(t, []worthRow{
		{"{a}: nope", "<function>", 1},
		{"({a, b}: a - b) {a = 5; b = 3; }", "2", 8},
		{"({b, a}: a - b) {a = 5; b = 3; }", "2", 8},
		{"({a ? 1}: a) {}", "1", 5},
		{"({a ? b, b ? 2}: [a b]) {}", "[2 2]", 8},
		{"({a ? b, b}: [a b]) {b = 2; }", "[2 2]", 8},
		{"({a, b ? a}: [a b]) {a = 1; }", "[1 1]", 8},
		{"({a ? throw \"!\"}: a) {a = 1; }", "1", 5},
		{"({a ? throw \"!\"}: 1) {}", "1", 4},
		{"({a}: 1) {a = throw \"!\"; }", "1", 4},
		{"({a, ...}: a) {a = 1; b = throw \"!\"; }", "1", 5},
		{"({}: 1) {}", "1", 4},
		{"({...}: 1) {a = 1; }", "1", 4},
		{"({...}: 1) {}", "1", 4},
		{"({a ? 1, ...}: a) {b = 2; }", "1", 5},
		{"({a}: ({b}: a - b) {b = 1; }) {a = 3; }", "2", 11},
		{"let x = 1; in ({a ? x}: let x = 2; in a) {}", "1", 8},
		{"({a ? 1 + 2}: [a a]) {}", "[3 3]", 9},
		{"({a}: [a a]) {a = 1 + 2; }", "[3 3]", 9},
		{"({true}: true) {true = 0; }", "0", 5},
	})
	faults(t, []faultRow{
		{"({a ? b, b ? a}: a) {}", impl.EvLoop, 6},
		{"({a ? a}: a) {}", impl.EvLoop, 5},
		{"let a = 7; in ({a ? a}: a) {}", impl.EvLoop, 6},
		{"({a}: 1) {}", impl.EvAttr, 3},
		{"({a ? 1, b}: 1) {a = 2; }", impl.EvAttr, 3},
		{"({a, ...}: 1) {b = 1; }", impl.EvAttr, 3},
		{"({a}: 1) {a = 1; b = 2; }", impl.EvArg, 3},
		{"({}: 1) {a = 1; }", impl.EvArg, 3},
		{"({a ? 1}: 1) {b = 2; }", impl.EvArg, 3},
		{"({a, b}: 1) {c = 1; }", impl.EvAttr, 3},
		{"({a}: nope) {b = 1; }", impl.EvAttr, 3},
		{"({a}: nope) {a = 1; b = 1; }", impl.EvArg, 3},
		{"({a}: 1) 1", impl.EvType, 3},
		{"({...}: 1) []", impl.EvType, 3},
		{"({...}: 1) (x: x)", impl.EvType, 3},
		{"({}: 1) null", impl.EvType, 3},
		{"({}: 1) nope", impl.EvName, 3},
		{"({a}: b) {a = 1; }", impl.EvName, 4},
		{"({a}: a) (rec {a = b; b = 1; })", impl.EvArg, 3},
	})
}

func TestEvalOfGetAndHas(t *testing.T) {
	worth(t, []worthRow{
		{"{a = 1; }.a", "1", 3},
		{"{a = 1; b = throw \"!\"; }.a", "1", 3},
		{"{}.a or 2", "2", 3},
		{"1.a or 2", "2", 3},
		{"null.a or 2", "2", 3},
		{"[].a or 2", "2", 3},
		{"{a = 1; }.a or (throw \"!\")", "1", 3},
		{"{a = {b = 3; }; }.a.b", "3", 5},
		{"{a = 1; }.a.b or 4", "4", 5},
		{"{a = throw \"!\"; } ? a", "true", 2},
		{"{a = 1; } ? b", "false", 2},
		{"{} ? a", "false", 2},
		{"1 ? a", "false", 2},
		{"null ? a", "false", 2},
		{"length ? a", "false", 2},
		{"{a = 1; }.a ? b", "false", 4},
		{"{a = {b = 1; }; }.a ? b", "true", 4},
		{"{a = 1; B = 2; c = 3; } ? B", "true", 2},
	})
	faults(t, []faultRow{
		{"{}.a", impl.EvAttr, 2},
		{"{b = 1; }.a", impl.EvAttr, 2},
		{"1.a", impl.EvType, 2},
		{"\"a\".a", impl.EvType, 2},
		{"[].a", impl.EvType, 2},
		{"null.a", impl.EvType, 2},
		{"(x: x).x", impl.EvType, 2},
		{"nope.a", impl.EvName, 2},
		{"nope.a or 2", impl.EvName, 2},
		{"{}.a or nope", impl.EvName, 3},
		{"{a = nope; }.a or 2", impl.EvName, 3},
		{"{a = 1; }.a.b", impl.EvType, 4},
		{"{a = {}; }.a.b", impl.EvAttr, 4},
		{"nope ? a", impl.EvName, 2},
		{"rec {a = {b = a.b; }; }.a.b", impl.EvLoop, 6},
	})
}

func TestEvalOfNegAndNot(t *testing.T) {
	worth(t, []worthRow{
		{"-1", "-1", 2},
		{"- -1", "1", 3},
		{"-0", "0", 2},
		{"!true", "false", 2},
		{"!!true", "true", 3},
		{"!(1 == 2)", "true", 4},
	})
	faults(t, []faultRow{
		{"-\"a\"", impl.EvType, 2},
		{"-true", impl.EvType, 2},
		{"-null", impl.EvType, 2},
		{"-[]", impl.EvType, 2},
		{"-nope", impl.EvName, 2},
		{"!1", impl.EvType, 2},
		{"!null", impl.EvType, 2},
		{"!\"\"", impl.EvType, 2},
		{"!nope", impl.EvName, 2},
	})
}

func TestEvalOfTruthValues(t *testing.T) {
	worth(t, []worthRow{
		{"true && true", "true", 3},
		{"true && false", "false", 3},
		{"false && true", "false", 2},
		{"false && nope", "false", 2},
		{"false && 1", "false", 2},
		{"true || nope", "true", 2},
		{"true || 1", "true", 2},
		{"false || true", "true", 3},
		{"false || false", "false", 3},
		{"false -> nope", "true", 2},
		{"false -> 1", "true", 2},
		{"true -> true", "true", 3},
		{"true -> false", "false", 3},
		{"false -> false -> nope", "true", 2},
	})
	faults(t, []faultRow{
		{"1 && nope", impl.EvType, 2},
		{"true && 1", impl.EvType, 3},
		{"null && true", impl.EvType, 2},
		{"true && nope", impl.EvName, 3},
		{"1 || nope", impl.EvType, 2},
		{"false || 1", impl.EvType, 3},
		{"[] || true", impl.EvType, 2},
		{"false || nope", impl.EvName, 3},
		{"1 -> nope", impl.EvType, 2},
		{"true -> 1", impl.EvType, 3},
		{"\"\" -> true", impl.EvType, 2},
		{"true -> nope", impl.EvName, 3},
	})
}

func TestEvalOfReckoning(t *testing.T) {
	worth(t, []worthRow{
		{"1 + 2", "3", 3},
		{"1 + 2 * 3 - 10", "-3", 7},
		{"9007199254740992 + 0", "9007199254740992", 3},
		{"9007199254740991 + 1", "9007199254740992", 3},
		{"-9007199254740992 + 9007199254740992", "0", 4},
		{"-9007199254740991 - 1", "-9007199254740992", 4},
		{"0 - 9007199254740992", "-9007199254740992", 3},
		{"9007199254740992 * 1", "9007199254740992", 3},
		{"9007199254740992 * -1", "-9007199254740992", 4},
		{"0 * 9007199254740992", "0", 3},
		{"9007199254740992 * 0", "0", 3},
		{"4503599627370496 * 2", "9007199254740992", 3},
		{"4503599627370496 * -2", "-9007199254740992", 4},
		{"-2 * -4503599627370496", "9007199254740992", 5},
		{"94906265 * 94906265", "9007199136250225", 3},
		{"7 / 2", "3", 3},
		{"-7 / 2", "-4", 4},
		{"7 / -2", "-4", 4},
		{"-7 / -2", "3", 5},
		{"-6 / 2", "-3", 4},
		{"6 / -2", "-3", 4},
		{"0 / -5", "0", 4},
		{"1 / 2", "0", 3},
		{"-1 / 2", "-1", 4},
		{"1 / -2", "-1", 4},
		{"-1 / -2", "0", 5},
		{"-1 / 9007199254740992", "-1", 4},
		{"9007199254740992 / -1", "-9007199254740992", 4},
		{"-9007199254740992 / -1", "9007199254740992", 5},
		{"9007199254740992 / 1", "9007199254740992", 3},
	})
	faults(t, []faultRow{
		{"9007199254740992 + 1", impl.EvRange, 3},
		{"9007199254740992 + 9007199254740992", impl.EvRange, 3},
		{"-9007199254740992 - 1", impl.EvRange, 4},
		{"-1 + -9007199254740992", impl.EvRange, 5},
		{"9007199254740992 - -1", impl.EvRange, 4},
		{"9007199254740992 * 2", impl.EvRange, 3},
		{"9007199254740992 * -2", impl.EvRange, 4},
		{"-4503599627370497 * 2", impl.EvRange, 4},
		{"94906266 * 94906266", impl.EvRange, 3},
		{"-94906266 * 94906266", impl.EvRange, 4},
		{"3037000500 * 3037000500", impl.EvRange, 3},
		{"4294967296 * 4294967296", impl.EvRange, 3},
		{"9007199254740992 * 2048", impl.EvRange, 3},
		{"9007199254740992 * 9007199254740992", impl.EvRange, 3},
		{"1 / 0", impl.EvZero, 3},
		{"0 / 0", impl.EvZero, 3},
		{"1 / (1 - 1)", impl.EvZero, 5},
		{"1 / -0", impl.EvZero, 4},
		{"\"a\" / 0", impl.EvType, 3},
	})
	for _, sign := range []string{"+", "-", "*", "/"} {
		for _, pair := range []string{"1 % \"a\"", "\"a\" % 1", "true % 1", "1 % null", "[] % []", "{} % {}", "length % 1"} {
			faults(t, []faultRow{{strings.Replace(pair, "%", sign, 1), impl.EvType, 3}})
		}
		faults(t, []faultRow{
			{"null " + sign + " nope", impl.EvName, 3},
			{"nope " + sign + " (1 / 0)", impl.EvName, 2},
			{"(1 / 0) " + sign + " nope", impl.EvZero, 4},
		})
	}
	for _, sign := range []string{"-", "*", "/"} {
		faults(t, []faultRow{{"\"a\" " + sign + " \"b\"", impl.EvType, 3}})
	}
}

func TestEvalOfTextsListsAndSetsPutTogether(t *testing.T) {
	worth(t, []worthRow{
		{`"a" + "b"`, `"ab"`, 3},
		{`"" + ""`, `""`, 3},
		{`"a" + "" + "b"`, `"ab"`, 5},
		{"[1] ++ [2]", "[1 2]", 5},
		{"[] ++ []", "[]", 3},
		{"[1] ++ [] ++ [2 3]", "[1 2 3]", 8},
		{"length ([(throw \"!\")] ++ [nope])", "2", 5},
		{"{a = 1; b = 2; } // {b = 3; c = 4; }", "{a = 1; b = 3; c = 4; }", 6},
		{"{b = 2; d = 4; } // {a = 1; c = 3; e = 5; }", "{a = 1; b = 2; c = 3; d = 4; e = 5; }", 8},
		{"{a = 1; b = 2; c = 3; } // {b = 9; }", "{a = 1; b = 9; c = 3; }", 6},
		{"{a = 1; } // {}", "{a = 1; }", 4},
		{"{} // {a = 1; }", "{a = 1; }", 4},
		{"{} // {}", "{}", 3},
		{"({a = throw \"!\"; } // {a = 1; }).a", "1", 5},
		{"{a = 1; } // {a = 2; } // {a = 3; }", "{a = 3; }", 6},
		{"let l = [1]; in [(l ++ [2]) (l ++ [3]) l]", "[[1 2] [1 3] [1]]", 13},
		{"let s = {a = 1; }; in [(s // {b = 2; }) (s // {a = 3; }) s]", "[{a = 1; b = 2; } {a = 3; } {a = 1; }]", 13},
	})
	for _, pair := range []string{"1 ++ [1]", "[1] ++ 1", "\"a\" ++ \"b\"", "{} ++ {}", "1 // {}", "{} // 1", "[] // []", "null // {}"} {
		faults(t, []faultRow{{pair, impl.EvType, 3}})
	}
	faults(t, []faultRow{
		{"1 ++ nope", impl.EvName, 3},
		{"1 // nope", impl.EvName, 3},
		{"nope ++ (1 / 0)", impl.EvName, 2},
		{"[] ++ nope", impl.EvName, 3},
	})
}

func TestEvalOfOrder(t *testing.T) {
	less := [][2]string{
		{"0", "1"}, {"(-1)", "0"}, {"(-2)", "(-1)"}, {"9", "10"}, {"(-9007199254740992)", "9007199254740992"},
		{`""`, `"a"`}, {`"a"`, `"b"`}, {`"a"`, `"ab"`}, {`"Z"`, `"a"`}, {`"9"`, `":"`}, {`"10"`, `"9"`}, {"\"a\"", "\"\xff\""}, {`"\n"`, `" "`},
	}
	for _, pair := range less {
		a, b := pair[0], pair[1]
		steps := 1 + impl.Eval(a, nil, 9).Steps + impl.Eval(b, nil, 9).Steps
		for sign, texts := range map[string][3]string{"<": {"true", "false", "false"}, "<=": {"true", "true", "false"}, ">": {"false", "false", "true"}, ">=": {"false", "true", "true"}} {
			worth(t, []worthRow{{a + sign + b, texts[0], steps}, {b + sign + a, texts[2], steps}})
			worth(t, []worthRow{{"let x = " + a + "; in x " + sign + " x", texts[1], 4 + impl.Eval(a, nil, 9).Steps}})
		}
	}
	for _, sign := range []string{"<", "<=", ">", ">="} {
		for _, pair := range []string{"1 % \"1\"", "\"1\" % 1", "true % false", "null % null", "[] % []", "{} % {}", "length % length", "1 % null"} {
			faults(t, []faultRow{{strings.Replace(pair, "%", sign, 1), impl.EvType, 3}})
		}
		faults(t, []faultRow{{"null " + sign + " nope", impl.EvName, 3}, {"nope " + sign + " (1 / 0)", impl.EvName, 2}})
	}
}

func TestEvalOfSameness(t *testing.T) {
	rows := []worthRow{
		{"1 == 1", "true", 3},
		{"1 == 2", "false", 3},
		{"1 == -1", "false", 4},
		{"true == true", "true", 3},
		{"true == false", "false", 3},
		{"null == null", "true", 3},
		{`"" == ""`, "true", 3},
		{`"a" == "a"`, "true", 3},
		{`"a" == "ab"`, "false", 3},
		{`1 == "1"`, "false", 3},
		{`"1" == 1`, "false", 3},
		{"0 == false", "false", 3},
		{"null == false", "false", 3},
		{"null == []", "false", 3},
		{"[] == {}", "false", 3},
		{"{} == []", "false", 3},
		{"[] == []", "true", 3},
		{"{} == {}", "true", 3},
		{"[1 2] == [1 2]", "true", 7},
		{"[1 2] == [1 3]", "false", 7},
		{"[1 2] == [2 nope]", "false", 5},
		{"[nope] == []", "false", 3},
		{"[nope] == [nope nope]", "false", 3},
		{"[[1] 2] == [[1] 2]", "true", 9},
		{"[[1] nope] == [[2] nope]", "false", 7},
		{"{a = 1; b = 2; } == {b = 2; a = 1; }", "true", 7},
		{"{a = 1; b = nope; } == {b = 2; a = 2; }", "false", 5},
		{"{a = nope; } == {b = nope; }", "false", 3},
		{"{a = nope; } == {}", "false", 3},
		{"{a = nope; } == {a = nope; b = 1; }", "false", 3},
		{"{a = [1]; } == {a = [1]; }", "true", 7},
		{"(x: x) == (x: x)", "false", 3},
		{"let f = x: x; in f == f", "false", 5},
		{"length == length", "false", 3},
		{"(at []) == 1", "false", 4},
		{"1 == (x: x)", "false", 3},
		{"let f = [length]; in f == f", "false", 6},
		{"let l = [1 2]; in l == l", "true", 7},
		{"{a = {b = null; }; } == {a = {b = null; }; }", "true", 7},
		{"[\"a\" true null] == [\"a\" true null]", "true", 9},
	}
	worth(t, rows)
	opposite := map[string]string{"true": "false", "false": "true"}
	for _, row := range rows {
		worth(t, []worthRow{{strings.Replace(row.src, "==", "!=", 1), opposite[row.text], row.steps}})
	}
	faults(t, []faultRow{
		{"nope == (1 / 0)", impl.EvName, 2},
		{"1 == nope", impl.EvName, 3},
		{"[1 nope] == [1 (1 / 0)]", impl.EvName, 6},
		{"[1 (1 / 0)] == [1 nope]", impl.EvZero, 8},
		{"{b = nope; a = 1; } == {b = 1; a = 1 / 0; }", impl.EvZero, 7},
		{"[nope] != [1]", impl.EvName, 4},
	})
}

func TestEvalOfWhichFaultComesFirst(t *testing.T) {
	throws(t, []worthRow{
		{`throw "a"`, "a", 3},
		{`throw ""`, "", 3},
		{`throw "\n\t\"\\"`, "\n\t\"\\", 3},
		{`throw ("a" + "b")`, "ab", 5},
		{`(throw "a") + (throw "b")`, "a", 4},
		{`[(throw "a") (throw "b")]`, "a", 4},
		{`[[1 (throw "a")] (throw "b")]`, "a", 6},
		{`{b = throw "b"; a = throw "a"; }`, "a", 4},
		{`{b = throw "b"; a = {c = throw "c"; }; }`, "c", 5},
		{`[1 {a = throw "a"; } nope]`, "a", 6},
		{`(throw "a") (throw "b")`, "a", 4},
		{`throw (throw "a")`, "a", 5},
		{`if throw "a" then throw "b" else throw "c"`, "a", 4},
		{`assert throw "a"; throw "b"`, "a", 4},
		{`(throw "a") == (throw "b")`, "a", 4},
		{`(throw "a").x or (throw "b")`, "a", 4},
		{`({a}: 1) (throw "x")`, "x", 5},
		{`with (throw "a"); b`, "a", 5},
	})
	faults(t, []faultRow{
		{`throw 1`, impl.EvType, 3},
		{`throw null`, impl.EvType, 3},
		{`throw nope`, impl.EvName, 3},
		{`1 / 0 + nope`, impl.EvZero, 4},
		{`nope + 1 / 0`, impl.EvName, 2},
		{`[(1 / 0) nope]`, impl.EvZero, 4},
		{`nope (1 / 0)`, impl.EvName, 2},
	})
}
