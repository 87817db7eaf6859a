package tests

import (
	"fmt"
	"math"
	"math/rand"
	"regexp"
	"slices"
	"strings"
	"testing"

	"loop.example/g00023/impl"
)

// tree puts a node ahead of its parts, with the size that they have.
func tree(kind int64, s string, n int64, parts ...[]impl.Expr) []impl.Expr {
	es := []impl.Expr{{Kind: kind, Text: s, N: n}}
	for _, part := range parts {
		es = append(es, part...)
	}
	es[0].Size = int64(len(es) - 1)
	return es
}

func exInt(n int64) []impl.Expr { return tree(impl.ExInt, "", n) }

func exStr(s string) []impl.Expr { return tree(impl.ExStr, s, 0) }

func exName(s string) []impl.Expr { return tree(impl.ExName, s, 0) }

func exList(parts ...[]impl.Expr) []impl.Expr { return tree(impl.ExList, "", 0, parts...) }

func exSet(parts ...[]impl.Expr) []impl.Expr { return tree(impl.ExSet, "", 0, parts...) }

func exRec(parts ...[]impl.Expr) []impl.Expr { return tree(impl.ExSet, "", 1, parts...) }

func exBind(s string, value []impl.Expr) []impl.Expr { return tree(impl.ExBind, s, 0, value) }

func exInherit(s string) []impl.Expr { return tree(impl.ExInherit, s, 0) }

func exLet(parts ...[]impl.Expr) []impl.Expr { return tree(impl.ExLet, "", 0, parts...) }

func exCall(f, x []impl.Expr) []impl.Expr { return tree(impl.ExCall, "", 0, f, x) }

func exFun(s string, body []impl.Expr) []impl.Expr { return tree(impl.ExFun, s, 0, body) }

func exParam(s string, instead ...[]impl.Expr) []impl.Expr {
	return tree(impl.ExParam, s, 0, instead...)
}

func exTake(more int64, parts ...[]impl.Expr) []impl.Expr {
	return tree(impl.ExTake, "", more, parts...)
}

func exGet(s string, parts ...[]impl.Expr) []impl.Expr { return tree(impl.ExGet, s, 0, parts...) }

func exBin(s string, left, right []impl.Expr) []impl.Expr {
	return tree(impl.ExBin, s, 0, left, right)
}

const betweenInOrder = "-> || && == != < <= > >= // + - * / ++"

const keywordsInOrder = "let in rec with if then else inherit assert or"

func TestLimitsAndKindsOfExpressions(t *testing.T) {
	if impl.MaxNodes != 3000 || impl.MaxNest != 60 {
		t.Error("limits")
	}
	kinds := []int64{impl.ExInt, impl.ExStr, impl.ExName, impl.ExList, impl.ExSet, impl.ExBind, impl.ExInherit, impl.ExLet,
		impl.ExWith, impl.ExAssert, impl.ExCall, impl.ExIf, impl.ExFun, impl.ExTake, impl.ExParam, impl.ExGet, impl.ExHas,
		impl.ExBin, impl.ExNeg, impl.ExNot}
	for i, kind := range kinds {
		if kind != int64(i+1) {
			t.Error("kind", i+1, "is", kind)
		}
	}
}

// A kind of 3.1: which parts it has (e an expression, b a bind, i an inherit, p a param), whether it has a Text (one that it
// may be), and the greatest N.
type kindRow struct {
	kind  int64
	parts string
	text  string
	n     int64
}

var kindRows = []kindRow{
	{impl.ExInt, "", "", 9007199254740992},
	{impl.ExStr, "", "any text", 0},
	{impl.ExName, "", "name", 0},
	{impl.ExList, "e*", "", 0},
	{impl.ExSet, "[bi]*", "", 1},
	{impl.ExBind, "e", "name", 0},
	{impl.ExInherit, "", "name", 0},
	{impl.ExLet, "[bi]*e", "", 0},
	{impl.ExWith, "ee", "", 0},
	{impl.ExAssert, "ee", "", 0},
	{impl.ExCall, "ee", "", 0},
	{impl.ExIf, "eee", "", 0},
	{impl.ExFun, "e", "name", 0},
	{impl.ExTake, "p*e", "", 1},
	{impl.ExParam, "e?", "name", 0},
	{impl.ExGet, "ee?", "name", 0},
	{impl.ExHas, "e", "name", 0},
	{impl.ExBin, "ee", "+", 0},
	{impl.ExNeg, "e", "", 0},
	{impl.ExNot, "e", "", 0},
}

var plainWords = regexp.MustCompile(`^[a-zA-Z_][-a-zA-Z0-9_']{0,59}$`)

// patternsOfParts has the parts of each kind at its number.
var patternsOfParts = func() []*regexp.Regexp {
	patterns := []*regexp.Regexp{nil}
	for _, row := range kindRows {
		patterns = append(patterns, regexp.MustCompile("^("+row.parts+")$"))
	}
	return patterns
}()

// partsFor writes parts out, each with a Text of its own.
func partsFor(letters string) [][]impl.Expr {
	parts := [][]impl.Expr{}
	for i, letter := range letters {
		own := string(rune('a' + i))
		switch letter {
		case 'e':
			parts = append(parts, exName(own))
		case 'b':
			parts = append(parts, exBind(own, exInt(1)))
		case 'i':
			parts = append(parts, exInherit(own))
		case 'p':
			parts = append(parts, exParam(own))
		}
	}
	return parts
}

// holding puts a node where its kind may stand.
func holding(es []impl.Expr) []impl.Expr {
	switch es[0].Kind {
	case impl.ExBind, impl.ExInherit:
		return exSet(es)
	case impl.ExParam:
		return exTake(0, es, exInt(1))
	}
	return es
}

// told is short enough to be read.
func told(es []impl.Expr) string {
	if len(es) > 40 {
		return fmt.Sprint(len(es), " nodes, first ", es[:40])
	}
	return fmt.Sprint(impl.Show(es), " ", es)
}

func okIs(t *testing.T, want bool, es []impl.Expr) {
	t.Helper()
	if impl.ExprOk(es) != want {
		t.Errorf("ExprOk is %v of %s", !want, told(es))
	}
}

func leastParts(kind int64) [][]impl.Expr {
	letters := ""
	for !patternsOfParts[kind].MatchString(letters) {
		letters += "e"
	}
	return partsFor(letters)
}

func TestExprOkOfEachKindWithAllRowsOfParts(t *testing.T) {
	for _, row := range kindRows {
		everyText("ebip", 5, func(letters string) {
			okIs(t, patternsOfParts[row.kind].MatchString(letters), holding(tree(row.kind, row.text, 0, partsFor(letters)...)))
		})
	}
}

func TestExprOkOfEachKindWithItsTextAndItsN(t *testing.T) {
	words := []string{"a", "_", "a-b'", "true", "x1", "Let", "lets", strings.Repeat("w", 60)}
	noWords := append(strings.Fields(keywordsInOrder), "1", "-a", "'a", "a b", "a.b", "a+", "\xc3\xa9", "a\xff", "a\n", strings.Repeat("w", 61))
	texts := []string{"", "a \t\n\"\\", "\xff", strings.Repeat("x", 4000)}
	noTexts := []string{"\x00", "a\x1f", "\r", strings.Repeat("x", 4001)}
	noBetween := []string{"!", "?", ".", ":", "=", "...", ",", ";", "(", "- ", "-->", "+ -", "a", "{", "or"}
	for _, row := range kindRows {
		as := func(s string, n int64) []impl.Expr {
			return holding(tree(row.kind, s, n, leastParts(row.kind)...))
		}
		fits, fitsNot := []string{""}, slices.Concat(words, texts[1:], noTexts, strings.Fields(betweenInOrder))
		switch row.text {
		case "name":
			fits, fitsNot = words, slices.Concat(noWords, []string{""}, strings.Fields(betweenInOrder))
		case "any text":
			fits, fitsNot = slices.Concat(words, texts, noWords), noTexts
		case "+":
			fits, fitsNot = strings.Fields(betweenInOrder), slices.Concat(words, noWords, noBetween, []string{""})
		}
		for _, s := range fits {
			okIs(t, true, as(s, 0))
		}
		for _, s := range fitsNot {
			okIs(t, false, as(s, 0))
		}
		for _, n := range []int64{1, 2, -1, row.n - 1, row.n, row.n + 1, math.MaxInt64, math.MinInt64} {
			okIs(t, n >= 0 && n <= row.n, as(row.text, n))
		}
	}
}

func TestExprOkOfKindsThatAreNone(t *testing.T) {
	for _, kind := range []int64{0, -1, 21, 22, 1000, 257, math.MaxInt64, math.MinInt64} {
		for _, parts := range []string{"", "e", "ee"} {
			okIs(t, false, tree(kind, "", 0, partsFor(parts)...))
			okIs(t, false, exList(tree(kind, "", 0, partsFor(parts)...)))
			okIs(t, false, exSet(tree(kind, "a", 0, partsFor(parts)...)))
		}
	}
}

func TestExprOkOnTop(t *testing.T) {
	okIs(t, false, nil)
	okIs(t, false, []impl.Expr{})
	okIs(t, false, exBind("a", exInt(1)))
	okIs(t, false, exInherit("a"))
	okIs(t, false, exParam("a"))
	okIs(t, false, exParam("a", exInt(1)))
	okIs(t, false, slices.Concat(exInt(1), exInt(2)))
	okIs(t, false, slices.Concat(exList(exInt(1)), exInt(2)))
	for _, row := range kindRows {
		okIs(t, true, exList(holding(tree(row.kind, row.text, 0, leastParts(row.kind)...))))
	}
}

func TestExprOkOfSizesThatDoNotFit(t *testing.T) {
	whole := exLet(exBind("x", exList(exInt(1), exInt(2))), exInherit("y"), exTake(1, exParam("p", exInt(3)), exParam("q"), exIfOf(exName("x"), exStr(""), exSet())))
	okIs(t, true, whole)
	for i := range whole {
		for _, size := range []int64{-1, -2, math.MinInt64, math.MaxInt64, math.MaxInt64 - 1, int64(len(whole) - i), int64(len(whole)), 1 << 32, whole[i].Size + 1<<32, whole[i].Size - 1<<32} {
			wrong := slices.Clone(whole)
			wrong[i].Size = size
			okIs(t, false, wrong)
		}
	}
	for cut := range whole {
		okIs(t, false, whole[:cut])
	}
	okIs(t, false, []impl.Expr{{Kind: impl.ExList, Size: 1}})
	okIs(t, false, []impl.Expr{{Kind: impl.ExList}, {Kind: impl.ExInt}})
	okIs(t, false, []impl.Expr{{Kind: impl.ExList, Size: 2}, {Kind: impl.ExList, Size: 2}, {Kind: impl.ExInt}})
	okIs(t, true, []impl.Expr{{Kind: impl.ExList, Size: 2}, {Kind: impl.ExList, Size: 1}, {Kind: impl.ExInt}})
	okIs(t, true, []impl.Expr{{Kind: impl.ExList, Size: 2}, {Kind: impl.ExList}, {Kind: impl.ExInt}})
	okIs(t, false, []impl.Expr{{Kind: impl.ExList, Size: 1}, {Kind: impl.ExList}, {Kind: impl.ExInt}})
}

func exIfOf(parts ...[]impl.Expr) []impl.Expr { return tree(impl.ExIf, "", 0, parts...) }

func TestExprOkOfOneTextTwice(t *testing.T) {
	one := exInt(1)
	for _, wrap := range []func(...[]impl.Expr) []impl.Expr{exSet, exRec, func(parts ...[]impl.Expr) []impl.Expr { return exLet(append(parts, one)...) }} {
		okIs(t, false, wrap(exBind("x", one), exBind("x", one)))
		okIs(t, false, wrap(exBind("x", one), exInherit("x")))
		okIs(t, false, wrap(exInherit("x"), exInherit("x")))
		okIs(t, false, wrap(exInherit("x"), exBind("y", one), exBind("x", exInt(2))))
		okIs(t, true, wrap(exInherit("x"), exBind("y", one), exBind("X", exSet(exInherit("x"), exBind("y", one)))))
		okIs(t, true, wrap(exBind("x", exName("x"))))
	}
	okIs(t, false, exTake(0, exParam("x"), exParam("x"), one))
	okIs(t, false, exTake(1, exParam("x", one), exParam("y"), exParam("x"), one))
	okIs(t, true, exTake(1, exParam("x", one), exParam("y", exTake(0, exParam("x"), one)), exTake(0, exParam("y"), one)))
	okIs(t, true, exList(exName("x"), exName("x"), exSet(exBind("x", one)), exSet(exBind("x", one))))
}

func manyElements(n int) []impl.Expr {
	parts := [][]impl.Expr{}
	for range n {
		parts = append(parts, exInt(7))
	}
	return exList(parts...)
}

func nested(kind int64, s string, times int, inside []impl.Expr) []impl.Expr {
	for range times {
		inside = tree(kind, s, 0, inside)
	}
	return inside
}

func TestExprOkAtItsLimits(t *testing.T) {
	okIs(t, true, manyElements(2999))
	okIs(t, false, manyElements(3000))
	okIs(t, false, manyElements(30000))
	for _, kind := range []int64{impl.ExList, impl.ExNeg, impl.ExNot} {
		okIs(t, true, nested(kind, "", 60, exInt(1)))
		okIs(t, false, nested(kind, "", 61, exInt(1)))
		okIs(t, true, exList(exInt(1), nested(kind, "", 59, exInt(1)), exInt(1)))
		okIs(t, false, exList(exInt(1), nested(kind, "", 60, exInt(1)), exInt(1)))
		okIs(t, false, nested(kind, "", 2999, exInt(1)))
	}
	okIs(t, true, nested(impl.ExFun, "x", 60, exInt(1)))
	okIs(t, true, nested(impl.ExNot, "", 59, exSet(exInherit("x"))))
	okIs(t, false, nested(impl.ExNot, "", 60, exSet(exInherit("x"))))
	okIs(t, true, nested(impl.ExNot, "", 58, exSet(exBind("x", exInt(1)))))
	okIs(t, false, nested(impl.ExNot, "", 59, exSet(exBind("x", exInt(1)))))
	okIs(t, true, nested(impl.ExNot, "", 58, exTake(0, exParam("x", exInt(1)), exInt(1))))
	okIs(t, false, nested(impl.ExNot, "", 59, exTake(0, exParam("x", exInt(1)), exInt(1))))
}

func showsAs(t *testing.T, want string, es []impl.Expr) {
	t.Helper()
	if got := impl.Show(es); got != want {
		t.Errorf("Show is %.300q, not %.300q", got, want)
	}
}

func TestShowOfEachKind(t *testing.T) {
	a, b, c := exName("a"), exName("b"), exName("c")
	showsAs(t, "0", exInt(0))
	showsAs(t, "9007199254740992", exInt(9007199254740992))
	showsAs(t, `"x \n\t\"\\"`, exStr("x \n\t\"\\"))
	showsAs(t, `""`, exStr(""))
	showsAs(t, "a", a)
	showsAs(t, "[]", exList())
	showsAs(t, "[a]", exList(a))
	showsAs(t, "[a b c]", exList(a, b, c))
	showsAs(t, "{}", exSet())
	showsAs(t, "{x = a; }", exSet(exBind("x", a)))
	showsAs(t, "{x = a; inherit y; }", exSet(exBind("x", a), exInherit("y")))
	showsAs(t, "{inherit y; inherit x; }", exSet(exInherit("y"), exInherit("x")))
	showsAs(t, "rec {}", exRec())
	showsAs(t, "rec {x = a; inherit y; z = b; }", exRec(exBind("x", a), exInherit("y"), exBind("z", b)))
	showsAs(t, "let x = a; in b", exLet(exBind("x", a), b))
	showsAs(t, "let in b", exLet(b))
	showsAs(t, "let inherit x; y = a; in b", exLet(exInherit("x"), exBind("y", a), b))
	showsAs(t, "with a; b", tree(impl.ExWith, "", 0, a, b))
	showsAs(t, "assert a; b", tree(impl.ExAssert, "", 0, a, b))
	showsAs(t, "a b", exCall(a, b))
	showsAs(t, "if a then b else c", exIfOf(a, b, c))
	showsAs(t, "x: a", exFun("x", a))
	showsAs(t, "{}: b", exTake(0, b))
	showsAs(t, "{...}: b", exTake(1, b))
	showsAs(t, "{x}: b", exTake(0, exParam("x"), b))
	showsAs(t, "{x, ...}: b", exTake(1, exParam("x"), b))
	showsAs(t, "{x, y ? a, ...}: b", exTake(1, exParam("x"), exParam("y", a), b))
	showsAs(t, "{y ? a, x}: b", exTake(0, exParam("y", a), exParam("x"), b))
	showsAs(t, "a.x", exGet("x", a))
	showsAs(t, "a.x or b", exGet("x", a, b))
	showsAs(t, "a ? x", tree(impl.ExHas, "x", 0, a))
	showsAs(t, "-a", tree(impl.ExNeg, "", 0, a))
	showsAs(t, "!a", tree(impl.ExNot, "", 0, a))
	for _, s := range strings.Fields(betweenInOrder) {
		showsAs(t, "a "+s+" b", exBin(s, a, b))
	}
}

// unbracketed and bracketed are expressions as they stand as parts of others.
func unbracketed() map[string][]impl.Expr {
	return map[string][]impl.Expr{
		"7": exInt(7), `"t"`: exStr("t"), "w": exName("w"), "[]": exList(), "[1 2]": exList(exInt(1), exInt(2)), "{}": exSet(),
		"rec {}": exRec(), "{x = 1; }": exSet(exBind("x", exInt(1))), "rec {inherit x; }": exRec(exInherit("x")),
	}
}

func bracketed() map[string][]impl.Expr {
	one := exInt(1)
	return map[string][]impl.Expr{
		"(let in 1)": exLet(one), "(with 1; 1)": tree(impl.ExWith, "", 0, one, one), "(assert 1; 1)": tree(impl.ExAssert, "", 0, one, one),
		"(1 1)": exCall(one, one), "(if 1 then 1 else 1)": exIfOf(one, one, one), "(x: 1)": exFun("x", one), "({}: 1)": exTake(0, one),
		"(1.x)": exGet("x", one), "(1.x or 1)": exGet("x", one, one), "(1 ? x)": tree(impl.ExHas, "x", 0, one),
		"(1 + 1)": exBin("+", one, one), "(-1)": tree(impl.ExNeg, "", 0, one), "(!1)": tree(impl.ExNot, "", 0, one),
	}
}

// placesForParts are expressions around one, with § where that is shown.
func placesForParts() map[string]func([]impl.Expr) []impl.Expr {
	k := exName("k")
	return map[string]func([]impl.Expr) []impl.Expr{
		"[k § k]":             func(e []impl.Expr) []impl.Expr { return exList(k, e, k) },
		"{b = §; }":           func(e []impl.Expr) []impl.Expr { return exSet(exBind("b", e)) },
		"rec {b = §; }":       func(e []impl.Expr) []impl.Expr { return exRec(exBind("b", e)) },
		"let b = §; in k":     func(e []impl.Expr) []impl.Expr { return exLet(exBind("b", e), k) },
		"let in §":            func(e []impl.Expr) []impl.Expr { return exLet(e) },
		"with §; k":           func(e []impl.Expr) []impl.Expr { return tree(impl.ExWith, "", 0, e, k) },
		"with k; §":           func(e []impl.Expr) []impl.Expr { return tree(impl.ExWith, "", 0, k, e) },
		"assert §; k":         func(e []impl.Expr) []impl.Expr { return tree(impl.ExAssert, "", 0, e, k) },
		"assert k; §":         func(e []impl.Expr) []impl.Expr { return tree(impl.ExAssert, "", 0, k, e) },
		"§ k":                 func(e []impl.Expr) []impl.Expr { return exCall(e, k) },
		"k §":                 func(e []impl.Expr) []impl.Expr { return exCall(k, e) },
		"if § then k else k":  func(e []impl.Expr) []impl.Expr { return exIfOf(e, k, k) },
		"if k then § else k":  func(e []impl.Expr) []impl.Expr { return exIfOf(k, e, k) },
		"if k then k else §":  func(e []impl.Expr) []impl.Expr { return exIfOf(k, k, e) },
		"f: §":                func(e []impl.Expr) []impl.Expr { return exFun("f", e) },
		"{}: §":               func(e []impl.Expr) []impl.Expr { return exTake(0, e) },
		"{...}: §":            func(e []impl.Expr) []impl.Expr { return exTake(1, e) },
		"{p ? §}: k":          func(e []impl.Expr) []impl.Expr { return exTake(0, exParam("p", e), k) },
		"{p ? §, q, ...}: k":  func(e []impl.Expr) []impl.Expr { return exTake(1, exParam("p", e), exParam("q"), k) },
		"§.g":                 func(e []impl.Expr) []impl.Expr { return exGet("g", e) },
		"§.g or k":            func(e []impl.Expr) []impl.Expr { return exGet("g", e, k) },
		"k.g or §":            func(e []impl.Expr) []impl.Expr { return exGet("g", k, e) },
		"§ ? g":               func(e []impl.Expr) []impl.Expr { return tree(impl.ExHas, "g", 0, e) },
		"§ + k":               func(e []impl.Expr) []impl.Expr { return exBin("+", e, k) },
		"k -> §":              func(e []impl.Expr) []impl.Expr { return exBin("->", k, e) },
		"-§":                  func(e []impl.Expr) []impl.Expr { return tree(impl.ExNeg, "", 0, e) },
		"!§":                  func(e []impl.Expr) []impl.Expr { return tree(impl.ExNot, "", 0, e) },
		"[(§ k)]":             func(e []impl.Expr) []impl.Expr { return exList(exCall(e, k)) },
		"{b = (f: §); }":      func(e []impl.Expr) []impl.Expr { return exSet(exBind("b", exFun("f", e))) },
		"{p ? (-§), ...}: {}": func(e []impl.Expr) []impl.Expr { return exTake(1, exParam("p", tree(impl.ExNeg, "", 0, e)), exSet()) },
	}
}

func TestShowOfPartsAndReadingThemBack(t *testing.T) {
	for place, around := range placesForParts() {
		for _, inside := range []map[string][]impl.Expr{unbracketed(), bracketed()} {
			for shown, part := range inside {
				want := strings.Replace(place, "§", shown, 1)
				showsAs(t, want, around(part))
				readsAs(t, want, around(part))
			}
		}
	}
}

func TestShowOfWhatIsNoExpression(t *testing.T) {
	for _, es := range wrongLists() {
		showsAs(t, "", es)
	}
}

func wrongLists() [][]impl.Expr {
	return [][]impl.Expr{
		nil, {}, {{}}, exInt(-1), exStr("\x00"), exName(""), exName("let"), exBind("a", exInt(1)), exInherit("a"), exParam("a"),
		exSet(exBind("x", exName("a")), exInherit("x")), exTake(0, exParam("x"), exParam("x"), exName("a")), exTake(2, exName("a")),
		exBin("!", exName("a"), exName("b")), manyElements(3000), nested(impl.ExNot, "", 61, exName("a")),
		{{Kind: impl.ExList, Size: 2}, {Kind: impl.ExName, Text: "a"}}, {{Kind: impl.ExNot, Size: -1}, {Kind: impl.ExName, Text: "a"}},
		slices.Concat(exName("a"), exName("b")), {{Kind: 21}}, exCall(exName("a"), exName("or")),
	}
}

func freeAre(t *testing.T, es []impl.Expr, want string) {
	t.Helper()
	if got := impl.Free(es); !slices.Equal(got, strings.Fields(want)) {
		t.Errorf("Free of %.300q is %q, not %q", impl.Show(es), got, want)
	}
}

func TestFreeOfTexts(t *testing.T) {
	for _, c := range [][2]string{
		{"1", ""}, {`"a"`, ""}, {"a", "a"}, {"true", "true"}, {"[b a b]", "a b"}, {"[]", ""}, {"[a B _ b1 b b']", "B _ a b b' b1"},
		{"a: a", ""}, {"a: b", "b"}, {"(a: a) a", "a"}, {"a: b: c: a b c d", "d"}, {"a: (a: a) a", ""}, {"[(a: a) a (a: a)]", "a"},
		{"{a}: a b", "b"}, {"{a ? b, b}: c", "c"}, {"{a ? a}: 1", ""}, {"{a ? d}: 1", "d"}, {"{a, ...}: a", ""}, {"{}: a", "a"}, {"({a}: a) a", "a"},
		{"{a = b; b = a; }", "a b"}, {"{a = 1; }", ""}, {"rec {a = b; b = a; }", ""}, {"rec {a = a; c = d; }", "d"}, {"[rec {a = 1; } a]", "a"},
		{"{inherit a; }", "a"}, {"rec {inherit a; }", "a"}, {"rec {inherit a; b = a; }", "a"}, {"{inherit a b; c = d; }", "a b d"},
		{"a: rec {inherit a; b = a; }", ""}, {"rec {a = rec {inherit a b; c = a; }; }", "b"}, {"rec {b = 1; a = {inherit b c; }; }", "c"},
		{"let a = b; b = c; in a d", "c d"}, {"let inherit a; in a", "a"}, {"let a = {inherit a; }; in 1", ""}, {"let in a", "a"},
		{"a: let inherit a; b = a; in b", ""}, {"(let a = 1; in a) a", "a"}, {"let inherit b; a = b; in a b c", "b c"}, {"let a = a; in 1", ""},
		{"with a; b", "a b"}, {"with {b = 1; }; b", "b"}, {"assert a; b", "a b"}, {"if a then b else c", "a b c"},
		{"a.b", "a"}, {"a.b or c", "a c"}, {"a ? b", "a"}, {"-a", "a"}, {"!a", "a"}, {"a -> b", "a b"}, {"a b", "a b"},
		{"x: y: {z = x; inherit w; } // rec {q = q; v = u; }", "u w"}, {"let f = x: f y; in f f", "y"}, {"a: {b ? a}: {a}: a b c", "c"},
	} {
		es, at := impl.Parse(c[0])
		if at != -1 {
			t.Errorf("%q is not read: %d", c[0], at)
		}
		freeAre(t, es, c[1])
	}
}

func TestFreeOfWhatIsNoExpression(t *testing.T) {
	for _, es := range wrongLists() {
		if got := impl.Free(es); len(got) != 0 {
			t.Errorf("Free of %s is %q", told(es), got)
		}
	}
}

// plainFree goes by what 3.2 says of Free alone: a set of names comes up from the parts, and each that is bound goes out of it.
func plainFree(es []impl.Expr) map[string]int {
	names := map[string]int{}
	if es[0].Kind == impl.ExName || es[0].Kind == impl.ExInherit {
		names[es[0].Text] = 1
	}
	inherited := map[string]int{}
	for at := 1; at < len(es); at += int(es[at].Size) + 1 {
		for name := range plainFree(es[at : at+int(es[at].Size)+1]) {
			names[name] = 1
		}
		if es[at].Kind == impl.ExInherit {
			inherited[es[at].Text] = 1
		}
	}
	if es[0].Kind == impl.ExFun {
		delete(names, es[0].Text)
	}
	for at := 1; at < len(es); at += int(es[at].Size) + 1 {
		binds := es[0].Kind == impl.ExLet || es[0].Kind == impl.ExSet && es[0].N == 1
		if binds && es[at].Kind == impl.ExBind || es[at].Kind == impl.ExParam {
			delete(names, es[at].Text)
		}
	}
	for name := range inherited {
		names[name] = 1
	}
	return names
}

// A grower makes expressions by chance, though the same ones each time.
type grower struct{ *rand.Rand }

func (g grower) word() string {
	return []string{"a", "b", "c", "d", "x-y", "z'", "_", "true"}[g.Intn(8)]
}

func (g grower) parts(least, most, depth int) [][]impl.Expr {
	parts := [][]impl.Expr{}
	for range least + g.Intn(most-least+1) {
		parts = append(parts, g.grow(depth))
	}
	return parts
}

// ahead makes binds or params, no two of one Text.
func (g grower) ahead(params bool, depth int) [][]impl.Expr {
	parts := [][]impl.Expr{}
	for _, i := range g.Perm(8)[:g.Intn(4)] {
		s := []string{"a", "b", "c", "d", "x-y", "z'", "_", "true"}[i]
		switch {
		case params:
			parts = append(parts, exParam(s, g.parts(0, 1, depth)...))
		case g.Intn(3) == 0:
			parts = append(parts, exInherit(s))
		default:
			parts = append(parts, exBind(s, g.grow(depth)))
		}
	}
	return parts
}

func (g grower) grow(depth int) []impl.Expr {
	kind := kindRows[g.Intn(len(kindRows))].kind
	if depth == 0 {
		kind = int64(1 + g.Intn(3))
	}
	depth--
	switch kind {
	case impl.ExInt:
		return exInt(int64(g.Intn(30)))
	case impl.ExStr:
		return exStr([]string{"", "a", " \"\n\\", "(", "or"}[g.Intn(5)])
	case impl.ExName, impl.ExBind, impl.ExInherit, impl.ExParam:
		return exName(g.word())
	case impl.ExList:
		return exList(g.parts(0, 3, depth)...)
	case impl.ExSet:
		return tree(kind, "", int64(g.Intn(2)), g.ahead(false, depth)...)
	case impl.ExLet:
		return exLet(append(g.ahead(false, depth), g.grow(depth))...)
	case impl.ExTake:
		return exTake(int64(g.Intn(2)), append(g.ahead(true, depth), g.grow(depth))...)
	case impl.ExFun, impl.ExHas:
		return tree(kind, g.word(), 0, g.grow(depth))
	case impl.ExGet:
		return exGet(g.word(), g.parts(1, 2, depth)...)
	case impl.ExBin:
		return exBin(strings.Fields(betweenInOrder)[g.Intn(15)], g.grow(depth), g.grow(depth))
	case impl.ExIf:
		return exIfOf(g.parts(3, 3, depth)...)
	case impl.ExNeg, impl.ExNot:
		return tree(kind, "", 0, g.grow(depth))
	}
	return tree(kind, "", 0, g.parts(2, 2, depth)...)
}

func TestExpressionsByChance(t *testing.T) {
	g := grower{rand.New(rand.NewSource(1))}
	for range 20000 {
		es := g.grow(g.Intn(6))
		if len(es) > 400 {
			continue
		}
		okIs(t, true, es)
		readsAs(t, impl.Show(es), es)
		want := []string{}
		for name := range plainFree(es) {
			want = append(want, name)
		}
		slices.Sort(want)
		freeAre(t, es, strings.Join(want, " "))
	}
}

func TestListsByChance(t *testing.T) {
	g := grower{rand.New(rand.NewSource(2))}
	numbers := []int64{0, 0, 1, 2, 3, 4, 5, -1, math.MaxInt64, math.MinInt64}
	texts := []string{"", "", "a", "b", "let", "+", "!", "\x00"}
	for range 20000 {
		es := g.grow(g.Intn(4))
		for range 1 + g.Intn(3) {
			at := g.Intn(len(es))
			switch g.Intn(4) {
			case 0:
				es[at].Kind = int64(g.Intn(24) - 1)
			case 1:
				es[at].Text = texts[g.Intn(len(texts))]
			case 2:
				es[at].N = numbers[g.Intn(len(numbers))]
			case 3:
				es[at].Size = numbers[g.Intn(len(numbers))]
			}
		}
		want := plainOk(es)
		okIs(t, want, es)
		shown := impl.Show(es)
		if want {
			readsAs(t, shown, es)
		} else if shown != "" || len(impl.Free(es)) != 0 {
			t.Errorf("%v is no expression, yet it has a text %q and names %q", es, shown, impl.Free(es))
		}
	}
}

// plainOk goes by the letters of the parts, as kindRows has them (for lists within the limits).
func plainOk(es []impl.Expr) bool {
	letter, size := plainNode(es)
	return letter == "e" && size == len(es)
}

// plainNode answers the letter of the node that begins there, and how many nodes it takes; 0 when it can't be.
func plainNode(es []impl.Expr) (string, int) {
	if len(es) == 0 || es[0].Kind < 1 || es[0].Kind > 20 || es[0].Size < 0 || es[0].Size >= int64(len(es)) {
		return "", 0
	}
	row, size := kindRows[es[0].Kind-1], int(es[0].Size)+1
	letters, texts := "", map[string]int{}
	for at := 1; at < size; {
		letter, took := plainNode(es[at:size])
		if took == 0 || letter != "e" && texts[es[at].Text] > 0 {
			return "", 0
		}
		if letter != "e" {
			texts[es[at].Text]++
		}
		letters += letter
		at += took
	}
	textFits := map[string]bool{
		"":         es[0].Text == "",
		"name":     plainWords.MatchString(es[0].Text) && !slices.Contains(strings.Fields(keywordsInOrder), es[0].Text),
		"any text": !strings.ContainsAny(es[0].Text, "\x00\x01\r"),
		"+":        slices.Contains(strings.Fields(betweenInOrder), es[0].Text),
	}[row.text]
	if !textFits || es[0].N < 0 || es[0].N > row.n || !patternsOfParts[row.kind].MatchString(letters) {
		return "", 0
	}
	switch es[0].Kind {
	case impl.ExBind:
		return "b", size
	case impl.ExInherit:
		return "i", size
	case impl.ExParam:
		return "p", size
	}
	return "e", size
}

func TestExpressionsStayAsTheyWere(t *testing.T) {
	lists := append(wrongLists(), exLet(exBind("x", exList(exInt(1), exName("y"))), exInherit("z"), exTake(1, exParam("p", exInt(3)), exGet("q", exName("x"), exStr("t")))))
	for _, es := range lists {
		list, stays := roomy(es, impl.Expr{Kind: impl.ExInt, Text: "room", N: 1, Size: 1})
		ok, shown, free := impl.ExprOk(list), impl.Show(list), impl.Free(list)
		if !stays() {
			t.Errorf("%s does not stay", told(es))
		}
		if impl.ExprOk(list) != ok || impl.Show(list) != shown || !slices.Equal(impl.Free(list), free) {
			t.Errorf("%s has other answers the second time", told(es))
		}
		for i := range free {
			free[i] = "changed"
		}
		if !stays() || slices.Contains(impl.Free(list), "changed") {
			t.Errorf("an answer of Free of %s is no new memory", told(es))
		}
	}
}
