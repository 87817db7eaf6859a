package tests

import (
	"fmt"
	"math"
	"slices"
	"strings"
	"testing"

	"loop.example/g00023/impl"
)

func isZeroBut(a impl.Answer, code int64) bool {
	return sameAnswer(a, impl.Answer{Code: code})
}

func TestEvalOfBudgets(t *testing.T) {
	for _, budget := range []int64{-1, math.MinInt64, 50001, math.MaxInt64} {
		for _, src := range []string{"1", "(", "nope"} {
			if a := impl.Eval(src, nil, budget); !isZeroBut(a, impl.EvArgs) {
				t.Error(budget, shown(a))
			}
		}
	}
	if a := impl.Eval("1", nil, 0); a.Code != impl.EvBudget || a.Steps != 0 || a.Text != "" {
		t.Error(shown(a))
	}
	if a := impl.Eval("(", nil, 0); !isZeroBut(a, impl.EvParse) {
		t.Error(shown(a))
	}
	for _, budget := range []int64{0, 1, 2, 1000, 49999, 50000} {
		if a := impl.Eval("let f = x: f x; in f 1", nil, budget); a.Code != impl.EvBudget || a.Steps != budget || a.Text != "" {
			t.Error(budget, shown(a))
		}
	}
}

// counting costs the same for each number but the first, and 1 for each minus sign ahead.
func counting(minus int, n int64) string {
	return fmt.Sprintf("let f = n: if n == 0 then 0 else f (n - 1); in %s(f %d)", strings.Repeat("-", minus), n)
}

func TestEvalThatCostsMaxBudget(t *testing.T) {
	first := impl.Eval(counting(0, 1), nil, 50000).Steps
	each := impl.Eval(counting(0, 2), nil, 50000).Steps - first
	n := 1 + (50000-first)/each
	minus := int(50000-first) % int(each)
	exact := impl.Eval(counting(minus, n), nil, 50000)
	if exact.Code != impl.EvOk || exact.Text != "0" || exact.Steps != 50000 {
		t.Error(shown(exact))
	}
	for _, src := range []string{counting(minus+1, n), counting(minus, n+1)} {
		if more := impl.Eval(src, nil, 50000); more.Code != impl.EvBudget || more.Steps != 50000 || more.Text != "" {
			t.Error(shown(more))
		}
	}
}

func TestEvalThatGoesDeep(t *testing.T) {
	for _, src := range []string{
		"let f = n: 1 + f (n + 1); in f 0",
		"let f = n: seq (f (n + 1)) 1; in f 0",
		"let f = n: [(f (n + 1))] == 1 || f (n + 1); in f 0",
		"let f = n: (x: x) (f n); in f 0",
		"let f = n: head (map f [n]); in f 0",
		"let f = n: fold (a: b: f a) n [1]; in f 0",
		"let f = n: with f n; nope; in f 0",
		"let f = {n ? f {}}: n; in f {}",
	} {
		if a := impl.Eval(src, nil, 50000); a.Code != impl.EvBudget || a.Steps != 50000 {
			t.Error(src, shown(a))
		}
	}
}

func TestEvalOfLibraries(t *testing.T) {
	many := []impl.File{}
	for i := range 101 {
		many = append(many, impl.File{Name: fmt.Sprintf("f%03d", i), Text: "("})
	}
	if a := impl.Eval("1", many[:100], 9); a.Code != impl.EvOk || a.Text != "1" {
		t.Error(shown(a))
	}
	if a := impl.Eval("1", many, 9); !isZeroBut(a, impl.EvArgs) {
		t.Error(shown(a))
	}
	long := strings.Repeat("n", 60)
	for _, names := range [][]string{{}, {"a"}, {"a", "b"}, {"a", "aa", "b"}, {"+", "-", "1", "A", "_", "a"}, {long}, {"let"}} {
		if a := impl.Eval("1", filesNamed(names), 9); a.Code != impl.EvOk {
			t.Error(names, shown(a))
		}
	}
	for _, names := range [][]string{{""}, {"a", "a"}, {"b", "a"}, {"a", "c", "b"}, {".a"}, {"a/b"}, {"a b"}, {"a'"}, {long + "n"}, {"a", "b", "b"}, {"", "a"}} {
		for _, src := range []string{"1", "(", "nope"} {
			if a := impl.Eval(src, filesNamed(names), 9); !isZeroBut(a, impl.EvArgs) {
				t.Error(names, shown(a))
			}
		}
	}
}

func filesNamed(names []string) []impl.File {
	files := []impl.File{}
	for _, name := range names {
		files = append(files, impl.File{Name: name, Text: "1"})
	}
	return files
}

func TestEvalOfMaxText(t *testing.T) {
	half, more := "\""+strings.Repeat("x", 2000)+"\"", "\""+strings.Repeat("x", 2001)+"\""
	worth(t, []worthRow{
		{"size (" + half + " + " + half + ")", "4000", 5},
		{"size (join \"\" [" + half + " " + half + "])", "4000", 9},
		{"size (join \"-\" [" + half + " " + half[:2000] + "\"])", "4000", 9},
		{"let t = " + half + "; in size (t + t)", "4000", 7},
		{half + " + \"\"", half, 3},
	})
	faults(t, []faultRow{
		{"size (" + half + " + " + more + ")", impl.EvRange, 5},
		{more + " + " + half, impl.EvRange, 3},
		{"join \"\" [" + half + " " + more + "]", impl.EvRange, 7},
		{"join \"-\" [" + half + " " + half + "]", impl.EvRange, 7},
		{"join \"\" [" + half + " " + half + " \"x\"]", impl.EvRange, 8},
		{"join \"\" [" + half + " " + more + " nope]", impl.EvName, 8},
		{"join \"\" [" + half + " " + more + " 1]", impl.EvType, 8},
	})
}

func ones(n int) string { return "[" + strings.Repeat("1 ", n) + "]" }

// inheriting is a set of so many names, none of which is known.
func inheriting(first string, n int) string {
	src := "{inherit"
	for i := range n {
		src += fmt.Sprintf(" %s%d", first, i)
	}
	return src + "; }"
}

func TestEvalOfMaxParts(t *testing.T) {
	worth(t, []worthRow{
		{"length " + ones(2000), "2000", 3},
		{"length (" + ones(1000) + " ++ " + ones(1000) + ")", "2000", 5},
		{"length (" + ones(2000) + " ++ [])", "2000", 5},
		{"let l = " + ones(1000) + "; in length (l ++ l)", "2000", 7},
		{"length (names " + inheriting("a", 2000) + ")", "2000", 5},
		{"length (names (" + inheriting("a", 1000) + " // " + inheriting("b", 1000) + "))", "2000", 7},
		{"length (names (" + inheriting("a", 1000) + " // " + inheriting("a", 1001) + "))", "1001", 7},
	})
	faults(t, []faultRow{
		{ones(2001), impl.EvRange, 1},
		{"length (" + ones(1000) + " ++ " + ones(1001) + ")", impl.EvRange, 5},
		{"length (" + ones(2000) + " ++ [1])", impl.EvRange, 5},
		{"length (names " + inheriting("a", 2001) + ")", impl.EvRange, 5},
		{"length (names (" + inheriting("a", 1000) + " // " + inheriting("b", 1001) + "))", impl.EvRange, 7},
	})
}

// nesting puts lists, sets or both around something, by a function, so that no text limits the depth.
func nesting(wrap string, times int, inside string) string {
	return fmt.Sprintf("let nest = n: if n == 0 then %s else %s; in nest %d", inside, wrap, times)
}

func TestEvalOfMaxNest(t *testing.T) {
	for _, wrap := range []string{"[(nest (n - 1))]", "{a = nest (n - 1); }", "[1 {a = 2; b = nest (n - 1); }]"} {
		levels := 1 + strings.Count(wrap, "{") - strings.Count(wrap, "{a = nest")
		for _, inside := range []string{"0", "\"\"", "null", "[]", "{}", "length"} {
			for times := 60/levels - 1; times <= 60/levels+1; times++ {
				fits := times*levels <= 60
				src := nesting(wrap, times, inside)
				if a := impl.Eval(src, nil, 50000); fits != (a.Code == impl.EvOk) || !fits && a.Code != impl.EvRange {
					t.Error(src, shown(a))
				}
				if a := impl.Eval("let v = "+src+"; w = "+src+"; in v == w", nil, 50000); fits != (a.Code == impl.EvOk) || !fits && a.Code != impl.EvRange {
					t.Error("==", src, shown(a))
				}
				if a := impl.Eval("deep ("+src+") 1", nil, 50000); fits != (a.Code == impl.EvOk) || !fits && a.Code != impl.EvRange {
					t.Error("deep", src, shown(a))
				}
				if a := impl.Eval("seq ("+src+") 1", nil, 50000); a.Code != impl.EvOk {
					t.Error("seq", src, shown(a))
				}
			}
		}
	}
	worth(t, []worthRow{
		{strings.Repeat("[", 61) + strings.Repeat("]", 61), strings.Repeat("[", 61) + strings.Repeat("]", 61), 61},
		{"let a = [1 2]; b = [a a]; in [b a [b]]", "[[[1 2] [1 2]] [1 2] [[[1 2] [1 2]]]]", 12},
	})
	faults(t, []faultRow{
		{"let a = [a]; in a", impl.EvRange, 4},
		{"let a = {x = a; }; in a", impl.EvRange, 4},
		{"let a = [a]; in a == a", impl.EvRange, 6},
		{"let a = [a]; b = [b]; in a == b", impl.EvRange, 8},
	})
	worth(t, []worthRow{{"let a = [1 a]; b = [2 b]; in a == b", "false", 8}})
}

// What has been gone through where it stood high may stand too deep elsewhere.
func TestEvalOfSharedPartsThatNestTooDeep(t *testing.T) {
	for _, inside := range []string{"0", "true", "null", "\"t\"", "[]", "{}"} {
		deepest := "let v = " + nesting("[(nest (n - 1))]", 58, inside) + "; in "
		for src, fits := range map[string]bool{
			"[v [v]]": true, "[v [[v]]]": false, "[[[v]] v]": false, "[[v] v]": true, "{a = v; b = [v]; }": true, "{a = v; b = [[v]]; }": false,
		} {
			for _, src := range []string{deepest + src, deepest + "deep " + src + " 1", deepest + "let w = " + src + "; in w == " + src} {
				if a := impl.Eval(src, nil, 50000); fits != (a.Code == impl.EvOk) || !fits && a.Code != impl.EvRange {
					t.Error(src, shown(a))
				}
			}
		}
	}
}

// doubled is a value with so many levels of two, each of which stands in two places.
func doubled(levels int) string {
	src := "let a0 = [1 1]; "
	for i := 1; i < levels; i++ {
		src += fmt.Sprintf("a%d = [a%d a%d]; ", i, i-1, i-1)
	}
	return src + "in "
}

func TestEvalOfWhatStandsInVeryManyPlaces(t *testing.T) {
	last := "a58"
	worth(t, []worthRow{
		{doubled(59) + last + " == " + last, "true", 181},
		{doubled(59) + "deep " + last + " 1", "1", 183},
		{doubled(59) + "length " + last, "2", 5},
		{doubled(3) + "a2", "[[[1 1] [1 1]] [[1 1] [1 1]]]", 11},
	})
	faults(t, []faultRow{{doubled(59) + last, impl.EvRange, 179}})
	faults(t, []faultRow{{doubled(59) + "[" + last + " nope]", impl.EvName, 181}})
}

func TestEvalOfMaxAnswer(t *testing.T) {
	four := "let a = \"" + strings.Repeat("x", 4000) + "\"; in "
	for size, fits := range map[int]bool{3983: true, 3984: true, 3985: false} {
		for _, src := range []string{"[a a a a (part a 0 %d)]", "[(part a 0 %d) a a a a]"} {
			a := impl.Eval(four+fmt.Sprintf(src, size), nil, 100)
			if fits && (a.Code != impl.EvOk || len(a.Text) != 16016+size) || !fits && (a.Code != impl.EvRange || a.Text != "") {
				t.Error(size, shown(a))
			}
		}
	}
	lines := "let a = \"" + strings.Repeat("\\n", 2000) + "\"; b = a + a; in "
	for src, size := range map[string]int{"b": 8002, "[b b]": 16007, "[b b (part b 0 1995)]": 20000, "[b b (part b 0 1996)]": 0, "{a = b; b = b; c = part b 0 1986; }": 19998, "{a = b; b = b; c = part b 0 1987; }": 20000, "{a = b; b = b; c = part b 0 1988; }": 0} {
		a := impl.Eval(lines+src, nil, 100)
		if size > 0 && (a.Code != impl.EvOk || len(a.Text) != size) || size == 0 && (a.Code != impl.EvRange || a.Text != "" || a.Steps == 0) {
			t.Error(src, len(a.Text), shown(a))
		}
	}
	faults(t, []faultRow{
		{four + "[a a a a a]", impl.EvRange, 8},
		{four + "[a a a a a nope]", impl.EvName, 9},
	})
}

// closed are expressions that know nothing around, with a value.
var closed = []string{
	"1", "\"a\" + \"b\"", "[1 [2 (3 + 4)]]", "{a = 1; b = {c = [] ++ []; }; }", "let x = 1; in [x x]", "(x: y: [x y]) 1 2",
	"rec {a = b; b = [c c]; c = 1 * 2; }", "map (x: x + 1) [1 2 3]", "fold (a: b: a + b) 0 [1 2]", "filter (x: x > 1) [1 2 3]",
	"mapSet (n: v: n) {a = 1; }", "sort [2 1]", "{a = 1; } // {b = 2; }", "with {a = 5; }; [a a]", "({a ? 1, b ? a}: [a b]) {}",
	"import \"set\"", "[(import \"seven\") (import \"seven\")]", "deep [1 2] [3 4]", "null", "toSet [{name = \"a\"; value = 1 + 1; }]",
	"if 1 < 2 then [1] else 2", "let f = n: if n == 0 then [] else [n] ++ f (n - 1); in f 3", "join \",\" [\"a\" \"b\"]", "{} ? a",
}

func TestWhatIsLookedAtTwiceIsEvaluatedOnce(t *testing.T) {
	for _, e := range closed {
		one := impl.Eval(e, shelf, 1000)
		if one.Code != impl.EvOk {
			t.Fatal(e, shown(one))
		}
		twice := "[" + one.Text + " " + one.Text + "]"
		worth(t, []worthRow{
			{"let v = " + e + "; in [v v]", twice, one.Steps + 4},
			{"let v = " + e + "; in v", one.Text, one.Steps + 2},
			{"let v = " + e + "; in 1", "1", 2},
			{"(v: [v v]) (" + e + ")", twice, one.Steps + 5},
			{"(v: 1) (" + e + ")", "1", 3},
			{"({v}: [v v]) {v = " + e + "; }", twice, one.Steps + 6},
			{"({v ? " + e + "}: [v v]) {}", twice, one.Steps + 6},
			{"({v ? " + e + "}: 1) {}", "1", 4},
			{"with {v = " + e + "; }; [v v]", twice, one.Steps + 5},
			{"with " + e + "; 1", "1", 2},
			{"let s = {v = " + e + "; }; in [s.v s.v]", twice, one.Steps + 7},
			{"let l = [(" + e + ")]; in [(head l) (head l)]", twice, one.Steps + 9},
			{"let l = map (x: " + e + ") [0]; in l ++ l", twice, one.Steps + 9},
			{"length [(" + e + ")]", "1", 3},
			{"{v = " + e + "; } ? v", "true", 2},
			{"{w = 1; }.w or (" + e + ")", "1", 3},
			{"if true then 1 else " + e, "1", 3},
			{"let v = " + e + "; in deep v [v v]", twice, one.Steps + 8},
		})
	}
}

func TestWhatEvalIsGivenStays(t *testing.T) {
	files, stays := roomy(shelf, impl.File{Name: "zz", Text: "nope"})
	for _, src := range slices.Concat(closed, []string{"import \"circle\"", "(", "nope", "throw \"a\""}) {
		first := impl.Eval(src, files, 1000)
		kept := strings.Clone(first.Text)
		if !stays() {
			t.Fatal(src, "changes the library")
		}
		impl.Eval("[1 2 3 {a = \"other\"; }]", files, 1000)
		if again := impl.Eval(src, files, 1000); !sameAnswer(first, again) || first.Text != kept {
			t.Error(src, shown(first), shown(again))
		}
	}
	if a := impl.Eval("import \"zz\"", files, 9); a.Code != impl.EvImport {
		t.Error("the room behind the library is read:", shown(a))
	}
}

func TestEvalOfEveryBrokenText(t *testing.T) {
	everyText("a1 [](){}.:;=+\"", 4, func(src string) {
		_, place := impl.Parse(src)
		a := impl.Eval(src, nil, 20)
		if (place >= 0) != (a.Code == impl.EvParse) || a.Code == impl.EvParse && !isZeroBut(a, impl.EvParse) {
			t.Errorf("%q: %s", src, shown(a))
		}
	})
}
