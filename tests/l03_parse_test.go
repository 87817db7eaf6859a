package tests

import (
	"math/rand"
	"slices"
	"strconv"
	"strings"
	"testing"

	"loop.example/g00023/impl"
)

func readsAs(t *testing.T, src string, want []impl.Expr) {
	t.Helper()
	got, at := impl.Parse(src)
	if at != -1 || !slices.Equal(got, want) {
		t.Errorf("Parse of %.200q is %s, %d; not %s", src, told(got), at, told(want))
	}
}

// means holds a text against the one that its expression is shown as.
func means(t *testing.T, src string, shown string) {
	t.Helper()
	es, at := impl.Parse(src)
	if at != -1 || impl.Show(es) != shown {
		t.Errorf("%.200q means %.300q, %d; not %.300q", src, impl.Show(es), at, shown)
	}
}

func faultAt(t *testing.T, src string, place int) {
	t.Helper()
	es, at := impl.Parse(src)
	if at != int64(place) || len(es) != 0 {
		t.Errorf("Parse of %.200q is %s, %d; not %d", src, told(es), at, place)
	}
}

// fault takes the place that § marks, which is not in the text itself.
func fault(t *testing.T, marked string) {
	t.Helper()
	ahead, behind, _ := strings.Cut(marked, "§")
	faultAt(t, ahead+behind, len(ahead))
}

func TestParseOfEachKind(t *testing.T) {
	a, b, c := exName("a"), exName("b"), exName("c")
	readsAs(t, "7", exInt(7))
	readsAs(t, "9007199254740992", exInt(9007199254740992))
	readsAs(t, "007", exInt(7))
	readsAs(t, `"a\n\"b"`, exStr("a\n\"b"))
	readsAs(t, `""`, exStr(""))
	readsAs(t, "a", a)
	readsAs(t, "(a)", a)
	readsAs(t, "((\t(a)\n) # note\n)", a)
	readsAs(t, "[]", exList())
	readsAs(t, "[a b.c \"x\" 1[]{}(a b)rec{}]", exList(a, exGet("c", b), exStr("x"), exInt(1), exList(), exSet(), exCall(a, b), exRec()))
	readsAs(t, "{}", exSet())
	readsAs(t, "{a=b;inherit b c;inherit;d=a b;}", exSet(exBind("a", b), exInherit("b"), exInherit("c"), exBind("d", exCall(a, b))))
	readsAs(t, "rec{}", exRec())
	readsAs(t, "rec {inherit a;}", exRec(exInherit("a")))
	readsAs(t, "let in a", exLet(a))
	readsAs(t, "let a=b;inherit c;in c", exLet(exBind("a", b), exInherit("c"), c))
	readsAs(t, "with a;b", tree(impl.ExWith, "", 0, a, b))
	readsAs(t, "assert a;b", tree(impl.ExAssert, "", 0, a, b))
	readsAs(t, "if a then b else c", exIfOf(a, b, c))
	readsAs(t, "a b c", exCall(exCall(a, b), c))
	readsAs(t, "a:b", exFun("a", b))
	readsAs(t, "a : b : c", exFun("a", exFun("b", c)))
	readsAs(t, "{}:a", exTake(0, a))
	readsAs(t, "{ ... } : a", exTake(1, a))
	readsAs(t, "{a}:b", exTake(0, exParam("a"), b))
	readsAs(t, "{a,b?c,...}:a", exTake(1, exParam("a"), exParam("b", c), a))
	readsAs(t, "{a?b:c,b?{c}:a}:b", exTake(0, exParam("a", exFun("b", c)), exParam("b", exTake(0, exParam("c"), a)), b))
	readsAs(t, "a.b", exGet("b", a))
	readsAs(t, "a.b.c", exGet("c", exGet("b", a)))
	readsAs(t, "a.b or c", exGet("b", a, c))
	readsAs(t, "a?b", tree(impl.ExHas, "b", 0, a))
	readsAs(t, "-a", tree(impl.ExNeg, "", 0, a))
	readsAs(t, "!a", tree(impl.ExNot, "", 0, a))
	for _, s := range strings.Fields(betweenInOrder) {
		readsAs(t, "a "+s+" b", exBin(s, a, b))
		readsAs(t, "1"+s+"(b)", exBin(s, exInt(1), b))
	}
	if es, _ := impl.Parse("f {x = [1 2]; } y"); len(es) != 9 || es[0].Size != 8 || es[1].Size != 6 || es[3].Size != 4 || es[4].Size != 3 || es[5].Size != 2 {
		t.Error("sizes", es)
	}
}

// levelOf and sideOf are the lines 2 to 11 of 3.2.
var levelOf = map[string]int{"->": 2, "||": 3, "&&": 4, "==": 5, "!=": 5, "<": 6, "<=": 6, ">": 6, ">=": 6, "//": 7, "+": 9, "-": 9, "*": 10, "/": 10, "++": 11}

var sideOf = map[int]string{2: "right", 3: "left", 4: "left", 5: "one", 6: "one", 7: "right", 9: "left", 10: "left", 11: "right"}

func TestParseOfEachTwoSigns(t *testing.T) {
	for first, level := range levelOf {
		for second, other := range levelOf {
			src := "a " + first + " b " + second + " c"
			leftFirst := "(a " + first + " b) " + second + " c"
			rightFirst := "a " + first + " (b " + second + " c)"
			switch {
			case level > other, level == other && sideOf[level] == "left":
				means(t, src, leftFirst)
			case level < other, sideOf[level] == "right":
				means(t, src, rightFirst)
			default:
				faultAt(t, src, len("a "+first+" b "))
			}
		}
	}
}

func TestParseOfNotAndMinus(t *testing.T) {
	for s, level := range levelOf {
		if level > 8 {
			means(t, "!a "+s+" b", "!(a "+s+" b)")
			fault(t, "a "+s+" §!b")
		} else {
			means(t, "!a "+s+" b", "(!a) "+s+" b")
			means(t, "a "+s+" !b", "a "+s+" (!b)")
			means(t, "a "+s+" !b + c", "a "+s+" (!(b + c))")
		}
		means(t, "-a "+s+" b", "(-a) "+s+" b")
		means(t, "a "+s+" -b", "a "+s+" (-b)")
		means(t, "a "+s+" b ? x", "a "+s+" (b ? x)")
		means(t, "a ? x "+s+" b", "(a ? x) "+s+" b")
		means(t, "f x "+s+" g y", "(f x) "+s+" (g y)")
		means(t, "a.x "+s+" b.y or c", "(a.x) "+s+" (b.y or c)")
	}
	means(t, "!!a", "!(!a)")
	means(t, "- - a", "-(-a)")
	means(t, "!-a", "!(-a)")
	fault(t, "-§!a")
	means(t, "-a ? x", "(-a) ? x")
	means(t, "!a ? x", "!(a ? x)")
	means(t, "-f x", "-(f x)")
	means(t, "-a.b", "-(a.b)")
	means(t, "f -x", "f - x")
	fault(t, "f §!x")
	means(t, "a ? b ? c", "(a ? b) ? c")
	means(t, "a ++ b ? c", "a ++ (b ? c)")
	fault(t, "a ? x§.y")
	fault(t, "a ? x §y")
	means(t, "a b ? x", "(a b) ? x")
}

func TestParseOfCallsAndGets(t *testing.T) {
	means(t, "f x y z", "((f x) y) z")
	means(t, "f x.y z", "(f (x.y)) z")
	means(t, "f.x y.z", "(f.x) (y.z)")
	means(t, "f x.y or z g", "(f (x.y or z)) g")
	means(t, "f (g x) [y] {} rec {} 1 \"t\"", "(((((f (g x)) [y]) {}) rec {}) 1) \"t\"")
	means(t, "a.b.c.d", "((a.b).c).d")
	means(t, "a.b.c or d", "(a.b).c or d")
	means(t, "a.b or {x = 1;}", "a.b or {x = 1; }")
	means(t, "a.b or rec {}", "a.b or rec {}")
	means(t, "a.b or (c d)", "a.b or (c d)")
	means(t, "1.x", "1.x")
	means(t, "[].x", "[].x")
	means(t, "{}.x", "{}.x")
	means(t, "[a.b or c d]", "[(a.b or c) d]")
	means(t, "(a.b or c).d", "(a.b or c).d")
	fault(t, "a.b or c§.d")
	fault(t, "a.b or c §or d")
	fault(t, "a.b.c or d§.e or f")
	fault(t, "a §or b")
	fault(t, "(a.b) §or c")
	fault(t, "a.b or §-c")
	fault(t, "a.b or §!c")
	fault(t, "a.b or §let in c")
	fault(t, "a.b or c§: d")
	fault(t, "a.b or §{}: d")
	fault(t, "a.b or §{c}: d")
	fault(t, "a.§\"b\"")
	fault(t, "a.§1")
	fault(t, "a.§or b")
	fault(t, "a.§(b)")
	fault(t, "a§...b")
}

func TestParseOfTheLoosest(t *testing.T) {
	loosest := map[string]string{
		"x: a": "x: a", "{}: a": "{}: a", "{...}: a": "{...}: a", "{x}: a": "{x}: a", "{x, y ? 1, ...}: a": "{x, y ? 1, ...}: a",
		"let x = 1; in a": "let x = 1; in a", "with x; a": "with x; a", "assert x; a": "assert x; a", "if x then y else a": "if x then y else a",
	}
	for src, shown := range loosest {
		body := func(s string) string { return strings.TrimSuffix(shown, "a") + s }
		for s := range levelOf {
			means(t, "b "+s+" "+src, "b "+s+" ("+shown+")")
			means(t, src+" "+s+" b", body("(a "+s+" b)"))
			means(t, "b "+s+" "+src+" "+s+" c", "b "+s+" ("+body("(a "+s+" c)")+")")
		}
		means(t, "!"+src, "!("+shown+")")
		means(t, "- "+src, "-("+shown+")")
		means(t, src+" b", body("(a b)"))
		means(t, src+" ? b", body("(a ? b)"))
		means(t, src+".b or c d", body("((a.b or c) d)"))
		means(t, "("+src+") b", "("+shown+") b")
		means(t, "{b = "+src+";}", "{b = ("+shown+"); }")
		means(t, "let b = "+src+"; in "+src, "let b = ("+shown+"); in ("+shown+")")
		means(t, "with "+src+"; "+src, "with ("+shown+"); ("+shown+")")
		means(t, "assert "+src+"; "+src, "assert ("+shown+"); ("+shown+")")
		means(t, "if "+src+" then "+src+" else "+src, "if ("+shown+") then ("+shown+") else ("+shown+")")
		means(t, "{p ? "+src+", q ? "+src+"}: "+src, "{p ? ("+shown+"), q ? ("+shown+")}: ("+shown+")")
		means(t, "y: "+src, "y: ("+shown+")")
		at := ""
		if strings.HasPrefix(src, "x:") {
			at, src = "x", src[1:]
		}
		fault(t, "f "+at+"§"+src)
		fault(t, "["+at+"§"+src+"]")
		fault(t, "f (a) [1] "+at+"§"+src)
	}
	// What ends behind one of the loosest can still be the left side of a looser sign.
	means(t, "a < x: b == c == d", "(a < (x: (b == c))) == d")
	means(t, "-x: b == c == d", "(-(x: (b == c))) == d")
	fault(t, "a == x: b < c §< d")
	fault(t, "x: b == c §== d")
}

func TestParseOfBracesThatBeginParamsOrNot(t *testing.T) {
	means(t, "{}", "{}")
	means(t, "{}: 1", "{}: 1")
	means(t, "{a = 1; }", "{a = 1; }")
	means(t, "{a}: a", "{a}: a")
	means(t, "{a, b}: a", "{a, b}: a")
	means(t, "{a ? 1}: a", "{a ? 1}: a")
	means(t, "{a ? b ? c}: a", "{a ? (b ? c)}: a")
	means(t, "{...}: 1", "{...}: 1")
	means(t, "{inherit a;}", "{inherit a; }")
	means(t, "f {}", "f {}")
	means(t, "f {a = 1;} b", "(f {a = 1; }) b")
	means(t, "{} {}", "{} {}")
	means(t, "{}: {}: {}", "{}: ({}: {})")
	means(t, "{}.a", "{}.a")
	means(t, "if {} then {}: {} else {}", "if {} then ({}: {}) else {}")
	fault(t, "{a§}")
	fault(t, "{a§} b")
	fault(t, "{a §...}: b")
	fault(t, "{a §b}")
	fault(t, "{a§:b}")
	fault(t, "{§1}: a")
	fault(t, "{§,}: a")
	fault(t, "{§?}: a")
	fault(t, "{§let}: a")
	fault(t, "{§let, a}: a")
	fault(t, "{inherit§, a}: a")
	fault(t, "{inherit§}: a")
	fault(t, "{inherit §? a}: a")
	fault(t, "{a,§}: a")
	fault(t, "{a, §,}: a")
	fault(t, "{a, b §c}: a")
	fault(t, "{a, §or}: a")
	fault(t, "{a, b§;}: a")
	fault(t, "{a, b§= 1; }")
	fault(t, "{a, b} §c")
	fault(t, "{a ? 1} §c")
	fault(t, "{a ? §}: c")
	fault(t, "{a ? §, b}: c")
	fault(t, "{... §a}: a")
	fault(t, "{...§, a}: a")
	fault(t, "{...} §a")
	fault(t, "{a, ...§, b}: a")
	fault(t, "{a, ... §? 1}: a")
	fault(t, "{} §= 1")
	fault(t, "f §{}: 1")
	fault(t, "f §{a}: 1")
	fault(t, "f §{a, b}")
	fault(t, "f §{a ? b}")
	fault(t, "f §{...}")
	fault(t, "f {a§}")
	fault(t, "[§{}: 1]")
	fault(t, "[1 §{a, b}: 1]")
	fault(t, "[{}§, {}]")
	fault(t, "a.b or §{...}: 1")
	fault(t, "rec {}§: 1")
	fault(t, "rec {a§, b}: 1")
	fault(t, "rec {a§}: 1")
	fault(t, "rec {§...}: 1")
	fault(t, "rec §a")
	fault(t, "rec §(a)")
	fault(t, "rec §rec {}")
	fault(t, "rec§: a")
}

func TestParseOfWhatCanNotStand(t *testing.T) {
	for _, s := range strings.Fields("} ] ) ; : , . ? = < > + * / ... -> // ++ && || == != <= >= in then else inherit or") {
		for _, ahead := range []string{"", "( ", "a: ", "{}: ", "1 + ", "! ", "- ", "[a ( ", "let in ", "with ", "with a; ", "assert ", "assert a; ", "if ", "if a then ", "if a then b else ", "{a = ", "let a = ", "{a ? ", "{inherit a; b = c: "} {
			fault(t, ahead+"§"+s)
			fault(t, ahead+"§"+s+" a")
		}
	}
	for _, s := range strings.Fields("} ] ) ; : , = ! ... in then else inherit or let with assert if") {
		for _, ahead := range []string{"1 ", "f x ", "a + 1 ", "x: 1 ", "let in 1 ", "{a = 1; } ", "[a] ", "(a) ", "-1 ", "a ? x ", "a.x or b ", "with a; 1 ", "if a then b else 1 "} {
			fault(t, ahead+"§"+s)
			fault(t, ahead+"§"+s+" 2")
		}
	}
	for _, s := range strings.Fields("} ) ; : , ? = < > + - * / ! ... -> // ++ && || == != <= >= in then else inherit or let with assert if") {
		fault(t, "[ §"+s)
		fault(t, "[1 §"+s)
		fault(t, "[a.b §"+strings.Replace(s, "or", "in", 1)+" b]")
	}
	for _, s := range append(strings.Fields(keywordsInOrder), "1", `"x"`, "(", "{", ".", ";") {
		fault(t, "a . §"+s)
		fault(t, "a ? §"+s)
		fault(t, "{a ? 1, §"+s)
		if s != "inherit" {
			fault(t, "{ §"+s)
			fault(t, "rec { §"+s)
			fault(t, "{a = 1; §"+s)
		}
		if s != "inherit" && s != "in" {
			fault(t, "let §"+s)
			fault(t, "let a = 1; §"+s)
		}
		if s != ";" {
			fault(t, "{inherit §"+s)
			fault(t, "{inherit a b §"+s)
			fault(t, "let inherit §"+s)
		}
	}
}

func TestParseOfPlacesOfFaults(t *testing.T) {
	for _, marked := range []string{
		"a §) b", "(a§] b", "(a b §; c", "[a b§)", "{a = 1§}", "{a = §;}", "{a §1; }", "{a = 1; §; }", "{a§.b = 1; }", "{a = 1;§]",
		"let a = 1 §in a", "let a = 1; §(", "let a = 1; b §in a", "let§: a", "with a §in b", "with a§, b", "with a; b§; c", "assert a §then b",
		"if a §; b", "if a then b §; c", "if a §else b", "if a then b else c §else d", "if a then b else c §then d", "x: y§; z", "x§, y", "1§: 2",
		"\"a\"§: b", "(a)§: b", "[a]§: b", "a b§: c", "f x§: y", "[x§: y]", "[1 §-2]", "{a §b}", "(§)", "a.b§: c", "a + b c§: d",
		"{a = b: c§, d}", "{} §{}: a", "a §= b", "§inherit a;", "{a = 1; a = 2; } §)", "a ? b§: c", "a # b\n§) c", "x: # note\n\n§;",
	} {
		fault(t, marked)
	}
}

func TestParseOfWhatEndsTooEarly(t *testing.T) {
	for _, src := range []string{
		"", " ", "\n\t ", "# note", "(", "(a", "[", "[a b", "{", "{a", "{a =", "{a = 1", "{a = 1;", "{inherit", "{inherit a", "{inherit a;", "{a,", "{a, b",
		"{a, b}", "{a ?", "{a ? 1", "{a ? 1}", "{...", "{...}", "{...}:", "{}:", "{a}:", "a:", "rec", "rec {", "let", "let in", "let in ", "let a", "let a = 1;",
		"let inherit", "with", "with a", "with a;", "assert", "assert a", "assert a;", "if", "if a", "if a then", "if a then b", "if a then b else",
		"a.", "a.b or", "a ?", "!", "-", "f -", "a -> b ->", "1 +", "a == b &&", "( # )",
	} {
		faultAt(t, src, len(src))
		faultAt(t, src+" ", len(src)+1)
		faultAt(t, src+"\n# note", len(src)+7)
	}
}

func TestParseWithFaultsOfLexemes(t *testing.T) {
	long := strings.Repeat("w", 61)
	for _, wrong := range []string{"$", "\"", "\"a", "@ a", long, "9007199254740993", "'", "\\", "\x00", "\xff", "&", "|", "\"\\x\""} {
		for _, ahead := range []string{"", "a ", "1 + ", "{a = 1; ", "f x ", "let a = 1; in ", "{a = 1; a = 2; } ", "(((", "{a, b} ", "{} "} {
			faultAt(t, ahead+wrong, len(ahead))
			faultAt(t, ahead+wrong+" ) ) b", len(ahead))
		}
		faultAt(t, ") "+wrong, 0)
		faultAt(t, "a ] "+wrong, 2)
		faultAt(t, "a == b == c "+wrong, 7)
		faultAt(t, "{a} "+wrong, 2)
		faultAt(t, "f {a, "+wrong, 2)
	}
}

func TestParseOfLongTexts(t *testing.T) {
	means(t, strings.Repeat(" ", 19999)+"a", "a")
	faultAt(t, strings.Repeat(" ", 20000)+"a", 0)
	faultAt(t, strings.Repeat("(", 20001), 0)
	faultAt(t, strings.Repeat("a ", 50000), 0)
	means(t, strings.Repeat("(", 9999)+"ab"+strings.Repeat(")", 9999), "ab")
	faultAt(t, strings.Repeat("(", 20000), 20000)
	faultAt(t, strings.Repeat("(", 9999)+"a"+strings.Repeat(")", 10000), 19999)
	word := strings.Repeat("w", 60)
	means(t, word+": "+word, word+": "+word)
	means(t, "{"+word+" ? 9007199254740992}: a."+word+" or \""+strings.Repeat("x", 4000)+"\"", "{"+word+" ? 9007199254740992}: (a."+word+" or \""+strings.Repeat("x", 4000)+"\")")
	for _, deep := range []string{"!", "- ", "[", "x:", "a->", "1+", "{a=", "{a?", "let a=", "if ", "a.b or(", "f ", "a++", "with a;", "rec{a=", "{...}:", "a.b "} {
		src := strings.Repeat(deep, 20000/len(deep))
		if es, at := impl.Parse(src); at < 0 || len(es) != 0 {
			t.Errorf("%.20q has %d nodes, %d", src, len(es), at)
		}
	}
}

func TestParseAtTheLimitsOfExpressions(t *testing.T) {
	readsAs(t, "["+strings.Repeat("7 ", 2999)+"]", manyElements(2999))
	faultAt(t, "["+strings.Repeat("7 ", 3000)+"]", 6002)
	faultAt(t, "["+strings.Repeat("7 ", 3000)+"]  ", 6004)
	faultAt(t, "["+strings.Repeat("7 ", 3000)+")", 6001)
	faultAt(t, "["+strings.Repeat("7 ", 3000)+"] $", 6003)
	for open, kind := range map[string]int64{"!": impl.ExNot, "- ": impl.ExNeg} {
		readsAs(t, strings.Repeat(open, 60)+"1", nested(kind, "", 60, exInt(1)))
		faultAt(t, strings.Repeat(open, 61)+"1", 61*len(open)+1)
	}
	readsAs(t, strings.Repeat("x:", 60)+"1", nested(impl.ExFun, "x", 60, exInt(1)))
	faultAt(t, strings.Repeat("x:", 61)+"1", 123)
	readsAs(t, strings.Repeat("[", 61)+strings.Repeat("]", 61), nested(impl.ExList, "", 60, exList()))
	faultAt(t, strings.Repeat("[", 62)+strings.Repeat("]", 62), 124)
	means(t, strings.Repeat("(", 500)+"1"+strings.Repeat(")", 500), "1")
	sum := "1" + strings.Repeat("+1", 60)
	if es, at := impl.Parse(sum); at != -1 || len(es) != 121 {
		t.Error("sixty signs", len(es), at)
	}
	faultAt(t, sum+"+1", len(sum)+2)
	if es, at := impl.Parse(strings.Repeat("{a=", 30) + "1" + strings.Repeat(";}", 30)); at != -1 || len(es) != 61 {
		t.Error("thirty sets", len(es), at)
	}
	faultAt(t, "!"+strings.Repeat("{a=", 30)+"1"+strings.Repeat(";}", 30), 152)
}

func TestParseOfOneTextTwice(t *testing.T) {
	for _, src := range []string{
		"{a = 1; a = 2; }", "{inherit a a;}", "{inherit a; a = 1; }", "rec {a = 1; b = 2; a = 1; }", "let a = 1; a = 2; in a", "let inherit a; inherit a; in a",
		"{a, a}: a", "{a ? 1, b, a}: a", "{a, b, a, ...}: a", "f [{a = {b = 1; b = 1; }; }] c", "x: {a ? {a, a}: 1}: 1",
	} {
		faultAt(t, src, len(src))
		faultAt(t, src+" # b", len(src)+4)
	}
	means(t, "{a = {a = 1; }; b = {a = 1; }; }", "{a = {a = 1; }; b = {a = 1; }; }")
	means(t, "{a}: {a}: let a = 1; in {inherit a; }", "{a}: ({a}: (let a = 1; in {inherit a; }))")
}

func TestParseOfBlanksAndNotes(t *testing.T) {
	src := `let f = {a, b ? a.c or [1 "x"], ...}: if a ? b then - a else !b ; inherit g ; in with f ; assert 1 < 2 ; rec { x = y : z ; }`
	want, at := impl.Parse(src)
	if at != -1 {
		t.Fatal(at)
	}
	for _, blank := range []string{"  ", "\n", "\t", " # note ) \" $\n", "\n#\n"} {
		readsAs(t, blank+strings.ReplaceAll(src, " ", blank)+blank, want)
	}
	lexemes, _ := impl.Lex(src)
	for i := range lexemes {
		begin := src[:lexemes[i].At]
		if _, at := impl.Parse(begin); at != int64(len(begin)) {
			t.Errorf("%q ends too early, at %d", begin, at)
		}
	}
}

// A plainReader finds all places at which an expression of a level may end, by the lines of 3.2 alone: it takes no choice.
type plainReader struct {
	lexemes []string
	known   map[[2]int]uint64
}

func (p plainReader) is(at int, texts string) bool {
	return at < len(p.lexemes) && slices.Contains(strings.Fields(texts), p.lexemes[at])
}

func (p plainReader) isWord(at int) bool {
	return at < len(p.lexemes) && plainWords.MatchString(p.lexemes[at]) && !p.is(at, keywordsInOrder)
}

func (p plainReader) beginsParams(at int) bool {
	if !p.is(at, "{") {
		return false
	}
	word := p.isWord(at + 1)
	return p.is(at+1, "...") || p.is(at+1, "}") && p.is(at+2, ":") || word && p.is(at+2, ", ?") || word && p.is(at+2, "}") && p.is(at+3, ":")
}

// from puts ends together: what step gives at each of these places.
func (p plainReader) from(places uint64, step func(at int) uint64) uint64 {
	all := uint64(0)
	for at := range 63 {
		if places>>at&1 == 1 {
			all |= step(at)
		}
	}
	return all
}

func (p plainReader) sign(places uint64, texts string) uint64 {
	return p.from(places, func(at int) uint64 {
		if p.is(at, texts) {
			return 1 << (at + 1)
		}
		return 0
	})
}

func (p plainReader) words(places uint64) uint64 {
	return p.from(places, func(at int) uint64 {
		if p.isWord(at) {
			return 1 << (at + 1)
		}
		return 0
	})
}

// many gives the places behind any number of steps.
func (p plainReader) many(places uint64, step func(places uint64) uint64) uint64 {
	for {
		more := places | step(places)
		if more == places {
			return places
		}
		places = more
	}
}

func (p plainReader) operand(places uint64, level int) uint64 {
	return p.from(places, func(at int) uint64 { return p.ends(at, level) | p.ends(at, 1) })
}

func (p plainReader) tight(places uint64, level int) uint64 {
	return p.from(places, func(at int) uint64 { return p.ends(at, level) })
}

func (p plainReader) expression(places uint64) uint64 { return p.operand(places, 2) }

func (p plainReader) ends(at int, level int) uint64 {
	key := [2]int{at, level}
	if ends, ok := p.known[key]; ok {
		return ends
	}
	p.known[key] = p.endsAnew(1<<at, level)
	return p.known[key]
}

func (p plainReader) endsAnew(here uint64, level int) uint64 {
	signs := ""
	for s, l := range levelOf {
		if l == level {
			signs += s + " "
		}
	}
	switch {
	case level == 1:
		return p.loosest(here)
	case level == 8:
		return p.tight(here, 9) | p.operand(p.sign(here, "!"), 8)
	case level == 12:
		return p.many(p.tight(here, 13), func(ends uint64) uint64 { return p.words(p.sign(ends, "?")) })
	case level == 13:
		return p.tight(here, 14) | p.operand(p.sign(here, "-"), 13)
	case level == 14:
		return p.many(p.tight(here, 15), func(ends uint64) uint64 { return p.tight(ends, 15) })
	case level == 15:
		got := func(ends uint64) uint64 { return p.words(p.sign(ends, ".")) }
		all := p.many(p.tight(here, 16), got)
		return all | p.tight(p.sign(got(all), "or"), 16)
	case level == 16:
		return p.tightest(here)
	case sideOf[level] == "left":
		return p.many(p.tight(here, level+1), func(ends uint64) uint64 { return p.operand(p.sign(ends, signs), level+1) })
	case sideOf[level] == "right":
		left := p.tight(here, level+1)
		return left | p.operand(p.sign(left, signs), level)
	}
	left := p.tight(here, level+1)
	return left | p.operand(p.sign(left, signs), level+1)
}

func (p plainReader) loosest(here uint64) uint64 {
	all := p.expression(p.sign(p.words(here), ":"))
	all |= p.expression(p.sign(p.binds(p.sign(here, "let")), "in"))
	all |= p.expression(p.sign(p.expression(p.sign(here, "with assert")), ";"))
	all |= p.expression(p.sign(p.expression(p.sign(p.expression(p.sign(here, "if")), "then")), "else"))
	return all | p.from(here, func(at int) uint64 {
		if !p.beginsParams(at) {
			return 0
		}
		param := func(places uint64) uint64 {
			name := p.words(places)
			return name | p.expression(p.sign(name, "?"))
		}
		inside := uint64(1) << (at + 1)
		some := p.many(param(inside), func(ends uint64) uint64 { return param(p.sign(ends, ",")) })
		more := p.sign(inside, "...") | p.sign(p.sign(some, ","), "...")
		return p.expression(p.sign(p.sign(inside|some|more, "}"), ":"))
	})
}

func (p plainReader) binds(here uint64) uint64 {
	return p.many(here, func(ends uint64) uint64 {
		bind := p.expression(p.sign(p.words(ends), "="))
		return p.sign(bind|p.many(p.sign(ends, "inherit"), p.words), ";")
	})
}

func (p plainReader) tightest(here uint64) uint64 {
	all := p.words(here) | p.sign(here, "1")
	all |= p.sign(p.expression(p.sign(here, "(")), ")")
	all |= p.sign(p.many(p.sign(here, "["), func(ends uint64) uint64 { return p.tight(ends, 15) }), "]")
	all |= p.sign(p.binds(p.sign(p.sign(here, "rec"), "{")), "}")
	return all | p.from(here, func(at int) uint64 {
		if p.beginsParams(at) {
			return 0
		}
		return p.sign(p.binds(p.sign(1<<at, "{")), "}")
	})
}

func isReadPlainly(lexemes []string) bool {
	p := plainReader{lexemes, map[[2]int]uint64{}}
	return p.expression(1)>>len(lexemes)&1 == 1
}

// heldAgainstPlain gives each word a name of its own, so that no two binds or params are of one Text.
func heldAgainstPlain(t *testing.T, lexemes []string) {
	t.Helper()
	lexemes = slices.Clone(lexemes)
	for i, lexeme := range lexemes {
		if lexeme == "a" {
			lexemes[i] = "a" + strconv.Itoa(i)
		}
	}
	src := strings.Join(lexemes, " ")
	es, at := impl.Parse(src)
	read := isReadPlainly(lexemes)
	if read != (at == -1) || read != impl.ExprOk(es) {
		t.Errorf("Parse of %q is %d, with %q", src, at, impl.Show(es))
	}
	if at >= 0 && at < int64(len(src)) {
		faultStays(t, src, int(at))
	}
}

// faultStays looks at what is ahead of a fault, which has none of its own, and at what stands behind, which changes nothing.
func faultStays(t *testing.T, src string, place int) {
	t.Helper()
	ahead := strings.TrimSuffix(src[:place], " ")
	if _, at := impl.Parse(ahead); at != -1 && at != int64(len(ahead)) {
		t.Errorf("%q has its fault at %d, yet what is ahead of it at %d", src, place, at)
	}
	wrong, _, _ := strings.Cut(src[place:], " ")
	if wrong == "{" {
		return
	}
	for _, behind := range []string{"", " a", " ) 1", " ; } a = 1", " $"} {
		if _, at := impl.Parse(src[:place] + wrong + behind); at != int64(place) {
			t.Errorf("%q has its fault at %d, not at %d", src[:place]+wrong+behind, at, place)
		}
	}
}

func everyRow(lexemes []string, most int, see func([]string)) {
	see(nil)
	if most == 0 {
		return
	}
	for _, first := range lexemes {
		everyRow(lexemes, most-1, func(rest []string) { see(append([]string{first}, rest...)) })
	}
}

func TestParseOfAllShortRows(t *testing.T) {
	for _, few := range []string{
		"a 1 { } : , ? ... . or", "a { } = ; inherit rec let in :", "a == < : - ! + ?", "a ( ) [ ] . or {", "a if then else with ; assert -> ++ //", "a { } : ; = f",
	} {
		everyRow(strings.Fields(few), 4, func(row []string) { heldAgainstPlain(t, row) })
	}
	everyRow(strings.Fields("a { } : ,"), 6, func(row []string) { heldAgainstPlain(t, row) })
	everyRow(strings.Fields("a : == <"), 7, func(row []string) { heldAgainstPlain(t, row) })
}

func TestParseOfRowsByChance(t *testing.T) {
	g := grower{rand.New(rand.NewSource(3))}
	lexemes := append(strings.Fields(betweenInOrder+" "+keywordsInOrder+" "+"a a a 1 { } [ ] ( ) ; : , . ? = ! ..."), "1")
	for range 6000 {
		row := rowOf(g.grow(g.Intn(4)))
		for range g.Intn(3) {
			at := g.Intn(len(row) + 1)
			switch g.Intn(3) {
			case 0:
				row = slices.Insert(row, at, lexemes[g.Intn(len(lexemes))])
			case 1:
				row = slices.Delete(row, at, min(at+1, len(row)))
			case 2:
				row = slices.Replace(row, at, min(at+1, len(row)), lexemes[g.Intn(len(lexemes))])
			}
		}
		if len(row) < 60 {
			heldAgainstPlain(t, row)
		}
	}
}

// rowOf gives the lexemes of an expression as it is shown, all words as a, all numbers and texts as 1.
func rowOf(es []impl.Expr) []string {
	lexemes, _ := impl.Lex(impl.Show(es))
	row := []string{}
	for _, l := range lexemes {
		switch {
		case l.Kind == impl.LexInt, l.Kind == impl.LexText:
			row = append(row, "1")
		case l.Kind == impl.LexWord && !impl.Keyword(l.Text):
			row = append(row, "a")
		default:
			row = append(row, l.Text)
		}
	}
	return row
}

// scant shows an expression with no more brackets than its place asks for: least is the loosest level that may stand there,
// right tells that one of the loosest may, end that nothing follows which such a one would take in.
func scant(es []impl.Expr, least int, right bool, end bool) string {
	level := plainLevel(es)
	if level == 1 && right && end {
		return scantOf(es, true)
	}
	if level < least || level == 1 || !end && endsLoosely(es) {
		return "(" + scantOf(es, true) + ")"
	}
	return scantOf(es, end)
}

func plainLevel(es []impl.Expr) int {
	switch es[0].Kind {
	case impl.ExBin:
		return levelOf[es[0].Text]
	case impl.ExNot:
		return 8
	case impl.ExHas:
		return 12
	case impl.ExNeg:
		return 13
	case impl.ExCall:
		return 14
	case impl.ExGet:
		return 15
	case impl.ExInt, impl.ExStr, impl.ExName, impl.ExList, impl.ExSet:
		return 16
	}
	return 1
}

// endsLoosely tells whether the last part of an expression is one of the loosest when it is shown with few brackets.
func endsLoosely(es []impl.Expr) bool {
	parts := cut(es)
	switch level := plainLevel(es); {
	case level == 1:
		return true
	case level == 12, level > 13:
		return false
	default:
		last := parts[len(parts)-1]
		return plainLevel(last) == 1 || plainLevel(last) >= level && endsLoosely(last)
	}
}

func cut(es []impl.Expr) [][]impl.Expr {
	parts := [][]impl.Expr{}
	for at := 1; at < len(es); at += int(es[at].Size) + 1 {
		parts = append(parts, es[at:at+int(es[at].Size)+1])
	}
	return parts
}

func scantOf(es []impl.Expr, end bool) string {
	parts, level := cut(es), plainLevel(es)
	free := func(part []impl.Expr) string { return scant(part, 2, true, true) }
	switch es[0].Kind {
	case impl.ExBin:
		left, right := level+1, level+1
		switch sideOf[level] {
		case "left":
			left = level
		case "right":
			right = level
		}
		return scant(parts[0], left, false, false) + " " + es[0].Text + " " + scant(parts[1], right, true, end)
	case impl.ExNot:
		return "!" + scant(parts[0], 8, true, end)
	case impl.ExNeg:
		return "- " + scant(parts[0], 13, true, end)
	case impl.ExHas:
		return scant(parts[0], 12, false, false) + "?" + es[0].Text
	case impl.ExCall:
		return scant(parts[0], 14, false, false) + " " + scant(parts[1], 15, false, false)
	case impl.ExGet:
		from := scant(parts[0], 15, false, false)
		if parts[0][0].Kind == impl.ExGet && len(cut(parts[0])) == 2 {
			from = "(" + from + ")"
		}
		if len(parts) == 2 {
			return from + "." + es[0].Text + " or " + scant(parts[1], 16, false, false)
		}
		return from + "." + es[0].Text
	case impl.ExList:
		inside := []string{}
		for _, part := range parts {
			inside = append(inside, scant(part, 15, false, false))
		}
		return "[" + strings.Join(inside, " ") + "]"
	case impl.ExFun:
		return es[0].Text + ":" + free(parts[0])
	case impl.ExIf:
		return "if " + free(parts[0]) + " then " + free(parts[1]) + " else " + free(parts[2])
	case impl.ExWith:
		return "with " + free(parts[0]) + ";" + free(parts[1])
	case impl.ExAssert:
		return "assert " + free(parts[0]) + ";" + free(parts[1])
	case impl.ExSet:
		return strings.Repeat("rec", int(es[0].N)) + "{" + scantBinds(parts) + "}"
	case impl.ExLet:
		return "let " + scantBinds(parts[:len(parts)-1]) + "in " + free(parts[len(parts)-1])
	case impl.ExTake:
		inside := []string{}
		for _, part := range parts[:len(parts)-1] {
			inside = append(inside, part[0].Text)
			if len(part) > 1 {
				inside[len(inside)-1] += "?" + free(part[1:])
			}
		}
		if es[0].N == 1 {
			inside = append(inside, "...")
		}
		return "{" + strings.Join(inside, ",") + "}:" + free(parts[len(parts)-1])
	}
	return impl.Show(es)
}

func scantBinds(binds [][]impl.Expr) string {
	shown := ""
	for _, bind := range binds {
		if bind[0].Kind == impl.ExInherit {
			shown += "inherit " + bind[0].Text + ";"
		} else {
			shown += bind[0].Text + "=" + scant(bind[1:], 2, true, true) + ";"
		}
	}
	return shown
}

func TestParseWithFewBrackets(t *testing.T) {
	for want, es := range map[string][]impl.Expr{
		"1 + 2 * 3": exBin("+", exInt(1), exBin("*", exInt(2), exInt(3))), "(1 + 2) * 3": exBin("*", exBin("+", exInt(1), exInt(2)), exInt(3)),
		"1 -> x:2": exBin("->", exInt(1), exFun("x", exInt(2))), "(1 + x:2) -> 3": exBin("->", exBin("+", exInt(1), exFun("x", exInt(2))), exInt(3)),
	} {
		if got := scant(es, 2, true, true); got != want {
			t.Errorf("%q, not %q", got, want)
		}
	}
	g := grower{rand.New(rand.NewSource(4))}
	for range 20000 {
		if es := g.grow(g.Intn(6)); len(es) < 400 {
			readsAs(t, scant(es, 2, true, true), es)
		}
	}
}

func TestParseAnswersNewMemory(t *testing.T) {
	src := "let f = x: [x 1 \"t\"]; inherit g; in f.a or g ? b"
	first, _ := impl.Parse(src)
	kept := slices.Clone(first)
	room := first[:cap(first)]
	for i := range room {
		room[i] = impl.Expr{Kind: -1, Text: "changed", N: -1, Size: -1}
	}
	readsAs(t, src, kept)
	for _, wrong := range []string{"", ")", "1 +", "{a = 1; a = 2; }"} {
		es, at := impl.Parse(wrong)
		_ = append(es, impl.Expr{Kind: 1})
		if again, place := impl.Parse(wrong); len(again) != 0 || place != at {
			t.Errorf("%q has another answer the second time: %v %d", wrong, again, place)
		}
	}
}

func TestParseOfBytesByChance(t *testing.T) {
	g := rand.New(rand.NewSource(5))
	pieces := append(strings.Fields(signsInOrder+" "+keywordsInOrder), "a", "b", "1", "\"x\"", " ", "\n", "#", "\"", "$", "\x00", "\xff")
	for range 20000 {
		src := ""
		for range g.Intn(12) {
			src += pieces[g.Intn(len(pieces))]
		}
		es, at := impl.Parse(src)
		if at < -1 || at > int64(len(src)) || (at == -1) != impl.ExprOk(es) || at != -1 && len(es) != 0 {
			t.Errorf("Parse of %q is %v, %d", src, es, at)
		}
		if at == -1 {
			readsAs(t, impl.Show(es), es)
		}
	}
}
