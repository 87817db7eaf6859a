package tests

import (
	"fmt"
	"math/rand"
	"reflect"
	"regexp"
	"slices"
	"strings"
	"testing"

	"loop.example/g00023/impl"
)

const (
	plainVersionPattern     = `[0-9][-.A-Za-z0-9]{0,29}`
	plainTermPattern        = `(?:!=|>=|<=|[=><^~])` + plainVersionPattern
	plainAlternativePattern = ` *(?:\*|` + plainTermPattern + `(?: +` + plainTermPattern + `)*) *`
)

var (
	plainVersion     = regexp.MustCompile(`\A` + plainVersionPattern + `\z`)
	plainConstraints = regexp.MustCompile(`\A` + plainAlternativePattern + `(?:\|\|` + plainAlternativePattern + `)*\z`)
	plainRows        = regexp.MustCompile(`[0-9]+|[A-Za-z]+`)
	plainTooLong     = regexp.MustCompile(`[0-9]{16}`)
	plainTerms       = regexp.MustCompile(`(\*|[!=><^~]+)([-.A-Za-z0-9]*)`)
)

func plainVersionOk(v string) bool {
	return plainVersion.MatchString(v) && !plainTooLong.MatchString(v)
}

// plainKeys has texts that compare as the parts do, as many for every version.
func plainKeys(v string) []string {
	keys := []string{}
	for _, row := range plainRows.FindAllString(v, -1) {
		if row[0] <= '9' {
			keys = append(keys, "3"+strings.Repeat("0", 15-len(row))+row)
		} else {
			keys = append(keys, "1"+row)
		}
	}
	for len(keys) < 40 {
		keys = append(keys, "2")
	}
	return keys
}

func plainCompare(a, b string) int64 {
	if !plainVersionOk(a) || !plainVersionOk(b) {
		return 2
	}
	return int64(slices.Compare(plainKeys(a), plainKeys(b)))
}

func plainConstraint(s string) ([][]impl.Term, bool) {
	if len(s) > 200 || !plainConstraints.MatchString(s) || plainTooLong.MatchString(s) {
		return [][]impl.Term{}, false
	}
	all := [][]impl.Term{}
	for _, piece := range strings.Split(s, "||") {
		terms := []impl.Term{}
		for _, term := range plainTerms.FindAllStringSubmatch(piece, -1) {
			terms = append(terms, impl.Term{Op: term[1], Version: term[2]})
		}
		all = append(all, terms)
	}
	return all, true
}

func plainTermHolds(term impl.Term, v string) bool {
	if term.Op == "*" {
		return true
	}
	order := plainCompare(v, term.Version)
	same := 0
	for same < 40 && plainKeys(v)[same] == plainKeys(term.Version)[same] {
		same++
	}
	return map[string]bool{
		"=": order == 0, "!=": order != 0, ">": order == 1, ">=": order != -1, "<": order == -1, "<=": order != 1,
		"^": order != -1 && same >= 1, "~": order != -1 && same >= 2,
	}[term.Op]
}

func plainMatches(c, v string) bool {
	alternatives, ok := plainConstraint(c)
	if !ok || !plainVersionOk(v) {
		return false
	}
	for _, terms := range alternatives {
		if !slices.ContainsFunc(terms, func(term impl.Term) bool { return !plainTermHolds(term, v) }) {
			return true
		}
	}
	return false
}

func TestLimitsOfVersions(t *testing.T) {
	if impl.MaxVersion != 30 || impl.MaxWant != 200 {
		t.Error(impl.MaxVersion, impl.MaxWant)
	}
}

// isVersion asks all functions that take versions.
func isVersion(t *testing.T, v string, want bool) {
	t.Helper()
	if impl.VersionOk(v) != want || plainVersionOk(v) != want {
		t.Errorf("%q: VersionOk is %v, in plain words %v, wanted %v", v, impl.VersionOk(v), plainVersionOk(v), want)
	}
	order, place, list, shown := int64(2), int64(-1), []string{}, ""
	if want {
		order, place, list, shown = 0, 0, []string{v}, "="+v
	}
	if got := impl.CompareVersions(v, v); got != order {
		t.Errorf("%q against itself: %d", v, got)
	}
	if (impl.CompareVersions(v, "1") != 2) != want || (impl.CompareVersions("1", v) != 2) != want {
		t.Errorf("%q against 1: %d and %d", v, impl.CompareVersions(v, "1"), impl.CompareVersions("1", v))
	}
	if impl.Matches("*", v) != want || impl.Best([]string{v}, "*") != place || !slices.Equal(impl.SortVersions([]string{v}), list) {
		t.Errorf("%q: %v %d %q", v, impl.Matches("*", v), impl.Best([]string{v}, "*"), impl.SortVersions([]string{v}))
	}
	if got := impl.ShowConstraint([][]impl.Term{{{Op: "=", Version: v}}}); got != shown {
		t.Errorf("= and %q is shown as %q", v, got)
	}
}

func TestVersionOk(t *testing.T) {
	for _, v := range []string{
		"0", "1", "9", "00", "1.2.3", "1a", "1A", "1.", "1-", "1..2", "1--2", "1.-.2", "1.2-rc1", "2026-11-16", "1z", "1Z", "0a0",
		"1" + strings.Repeat("a", 29), "1" + strings.Repeat(".", 29), "1" + strings.Repeat(".1", 14) + "-",
		"123456789012345", "000000000000000", "999999999999999", "000000000000001", "1.123456789012345", "123456789012345a98765432109876", "1a999999999999999-999999999999",
	} {
		isVersion(t, v, true)
	}
	for _, v := range []string{
		"", " ", "a", "a1", "v1", ".1", "-1", "+1", "*", "1 ", " 1", "1 2", "1_2", "1+2", "1~", "1\n", "1\x00", "1/2", "1:2", "1@", "1[", "1`", "1{", "1é", "1\xff", "é1", "١",
		"1" + strings.Repeat("a", 30), "1" + strings.Repeat(".1", 15), strings.Repeat("1.", 100),
		"1234567890123456", "0000000000000000", "0000000000000001", "1.0000000000000001", "1a1234567890123456", "1234567890123456a", "999999999999999999999999999999",
	} {
		isVersion(t, v, false)
	}
}

func TestVersionOkOfEachByte(t *testing.T) {
	for _, b := range allBytes() {
		digit := b >= '0' && b <= '9'
		letter := b >= 'a' && b <= 'z' || b >= 'A' && b <= 'Z'
		isVersion(t, string([]byte{b}), digit)
		isVersion(t, string([]byte{b, '1'}), digit)
		for _, v := range [][]byte{{'1', b}, {'1', b, 'a'}, {'1', '.', b, b, '2'}} {
			isVersion(t, string(v), digit || letter || b == '.' || b == '-')
		}
	}
}

func TestVersionOkOfEachSize(t *testing.T) {
	for size := range 70 {
		isVersion(t, strings.Repeat("1.", size)[:size], size >= 1 && size <= impl.MaxVersion)
		isVersion(t, strings.Repeat("1a", size)[:size], size >= 1 && size <= impl.MaxVersion)
		isVersion(t, strings.Repeat("0", size), size >= 1 && size <= 15)
		isVersion(t, "7-"+strings.Repeat("9", size), size <= 15)
	}
}

func TestVersionOkOfAllShortTexts(t *testing.T) {
	everyText("01aZ.-_ ", 4, func(v string) { isVersion(t, v, plainVersionOk(v)) })
}

func compares(t *testing.T, a, b string, want int64) {
	t.Helper()
	if got := impl.CompareVersions(a, b); got != want {
		t.Errorf("%q and %q: %d, not %d", a, b, got, want)
	}
	back := want
	if want != 2 {
		back = -want
	}
	if got := impl.CompareVersions(b, a); got != back {
		t.Errorf("%q and %q: %d, not %d", b, a, got, back)
	}
}

func TestCompareVersions(t *testing.T) {
	rising := []string{
		"0a", "0", "0.1", "1.0-alpha", "1.0-alpha.1", "1.0-b", "1.0-beta", "1.0-rc", "1.0-rc1", "1.0-rc2", "1.0-rc10", "1.0", "1.0.0-x", "1.0.0", "1.0.0.0", "1.0.1", "1.1", "1.2", "1.10",
		"1.10.123456789012344", "1.10.123456789012345", "1.999999999999999", "2A", "2Z", "2a", "2aa", "2ab", "2b", "2", "10", "999999999999999",
	}
	for i, a := range rising {
		for j, b := range rising {
			compares(t, a, b, int64(min(1, max(-1, i-j))))
		}
	}
	for _, same := range [][]string{
		{"1.0", "1-0", "1.0.", "1..0", "1-.-0", "01.00", "1.000000000000000", "1.0-"}, {"1", "1.", "01", "000000000000001", "1-"},
		{"1a", "1.a", "1-a", "1a.", "01-a"}, {"1rc1", "1.rc.1", "1-rc01", "1rc-1"}, {"0", "000000000000000", "0."},
	} {
		for _, a := range same {
			for _, b := range same {
				compares(t, a, b, 0)
			}
		}
	}
	for _, none := range []string{"", "x", "1 ", "-1", "1_0", "1234567890123456", strings.Repeat("1.", 16)} {
		compares(t, none, "1", 2)
		compares(t, none, none, 2)
		compares(t, none, "", 2)
	}
}

// A word, no part and a number at each place, behind parts that are the same.
func TestCompareVersionsOfUnlikeKinds(t *testing.T) {
	for _, ahead := range []string{"1", "1.0", "1.a", "0.0.0", "1a2b", "999999999999999"} {
		for _, word := range []string{"a", "z", "Z", "rc99", "zzz.999"} {
			for _, number := range []string{"0", "00", "7", "0a", "0.a", "999999"} {
				compares(t, ahead+"."+word, ahead, -1)
				compares(t, ahead, ahead+"."+number, -1)
				compares(t, ahead+"-"+word, ahead+"."+number, -1)
			}
		}
	}
}

func shortVersions(bytes string, most int) []string {
	all := []string{}
	everyText(bytes, most, func(v string) {
		if plainVersionOk(v) {
			all = append(all, v)
		}
	})
	return all
}

func TestVersionsAreInAnOrder(t *testing.T) {
	all := shortVersions("01a.-b", 4)
	for _, a := range all {
		for _, b := range all {
			if got := impl.CompareVersions(a, b); got != plainCompare(a, b) || got != -impl.CompareVersions(b, a) {
				t.Fatalf("%q and %q: %d", a, b, got)
			}
		}
	}
	few := shortVersions("01ab.", 3)
	for _, a := range few {
		for _, b := range few {
			first := impl.CompareVersions(a, b)
			for _, c := range few {
				second, both := impl.CompareVersions(b, c), impl.CompareVersions(a, c)
				if first <= 0 && second <= 0 && both != min(first, second) {
					t.Fatalf("%q, %q, %q: %d, %d, but %d", a, b, c, first, second, both)
				}
			}
		}
	}
}

func constraintIs(t *testing.T, s string, want [][]impl.Term, shown string) {
	t.Helper()
	got, ok := impl.ReadConstraint(s)
	if !ok || !reflect.DeepEqual(got, want) {
		t.Errorf("%q is read as %q, %v", s, got, ok)
	}
	if text := impl.ShowConstraint(want); text != shown {
		t.Errorf("%q is shown as %q", s, text)
	}
	if again, ok := impl.ReadConstraint(shown); !ok || !reflect.DeepEqual(again, want) {
		t.Errorf("%q is read as %q, %v", shown, again, ok)
	}
}

func noConstraint(t *testing.T, s string) {
	t.Helper()
	if got, ok := impl.ReadConstraint(s); ok || len(got) != 0 {
		t.Errorf("%q is read as %q, %v", s, got, ok)
	}
	if _, ok := plainConstraint(s); ok {
		t.Errorf("%q is one in plain words", s)
	}
	if impl.Matches(s, "1") || impl.Best([]string{"1", "2"}, s) != -1 {
		t.Errorf("%q matches something", s)
	}
}

func TestReadConstraint(t *testing.T) {
	one := func(op, version string) []impl.Term { return []impl.Term{{Op: op, Version: version}} }
	for _, op := range strings.Fields("= != > >= < <= ^ ~") {
		for _, v := range []string{"0", "1.2", "1-rc.2", "123456789012345", "1" + strings.Repeat("z", 29)} {
			constraintIs(t, op+v, [][]impl.Term{one(op, v)}, op+v)
			constraintIs(t, "  "+op+v+" ", [][]impl.Term{one(op, v)}, op+v)
			constraintIs(t, "*||"+op+v, [][]impl.Term{one("*", ""), one(op, v)}, "* || "+op+v)
		}
	}
	constraintIs(t, "*", [][]impl.Term{one("*", "")}, "*")
	constraintIs(t, "   *  ", [][]impl.Term{one("*", "")}, "*")
	constraintIs(t, "*||*  ||*", [][]impl.Term{one("*", ""), one("*", ""), one("*", "")}, "* || * || *")
	constraintIs(t, ">=1 <2", [][]impl.Term{{{Op: ">=", Version: "1"}, {Op: "<", Version: "2"}}}, ">=1 <2")
	constraintIs(t, "  >=1   <2||=3 ", [][]impl.Term{{{Op: ">=", Version: "1"}, {Op: "<", Version: "2"}}, one("=", "3")}, ">=1 <2 || =3")
	constraintIs(t, "=1 =1 =1", [][]impl.Term{{{Op: "=", Version: "1"}, {Op: "=", Version: "1"}, {Op: "=", Version: "1"}}}, "=1 =1 =1")
	constraintIs(t, "=01.||~2-", [][]impl.Term{one("=", "01."), one("~", "2-")}, "=01. || ~2-")
}

func TestReadConstraintOfWhatIsNone(t *testing.T) {
	for _, s := range []string{
		"", " ", "   ", "||", " || ", "=1 ||", "|| =1", "=1 || || =2", "=1 |||| =2", "=1||| =2", "=1 | =2", "=1 | | =2", "|", "=1|", "=1 |||=2",
		"* =1", "=1 *", "* *", "*1", "=*", "**", "*=1", "*|*", "* || =1 *", "1", "1.2", "1 =1", "=1 1", "=", "=1 =", "= 1", "> =1", ">= 1", "! =1", "=1 . 2", "=1. 2", "^ 1", "~\t1",
		"==1", "=>1", "=<1", "!1", "<>1", "<<1", ">>=1", "^^1", "~>1", "^=1", "!!=1", "-1", "+1", "=v1", "=.1", "=-1", "=x", "=1=2", "=1<2", ">=1<2", "=1,=2", "=1;=2", "=1&&=2",
		"=1\t=2", "=1\n", "\n=1", "=1\r", "=1\x00", "=1\u00a0=2", "=1_", "=1é", "(=1)", "\"=1\"",
		"=1234567890123456", "=1 =1234567890123456", "=1" + strings.Repeat("a", 30), "=1 || =", "* || ", "^", "~", "latest",
	} {
		noConstraint(t, s)
	}
}

func TestConstraintsOfMaxWant(t *testing.T) {
	blanks := strings.Repeat(" ", 300)
	for _, s := range []string{"*", "=1", ">=1 <2 || =3"} {
		for _, size := range []int{199, 200, 201, 202} {
			for _, text := range []string{s + blanks[:size-len(s)], blanks[:size-len(s)] + s} {
				if size > impl.MaxWant {
					noConstraint(t, text)
				} else if got, ok := impl.ReadConstraint(text); !ok || impl.ShowConstraint(got) != s || !impl.Matches(text, "1") || impl.Best([]string{"1"}, text) != 0 {
					t.Errorf("%q with blanks up to %d: %q, %v", s, size, got, ok)
				}
			}
		}
	}
	// 67 terms of two bytes and 66 blanks are 200 bytes.
	terms := slices.Repeat([]impl.Term{{Op: "=", Version: "1"}}, 67)
	whole := strings.Repeat("=1 ", 66) + "=1"
	constraintIs(t, whole, [][]impl.Term{terms}, whole)
	for _, longer := range []impl.Term{{Op: "=", Version: "12"}, {Op: ">=", Version: "1"}} {
		wide := slices.Clone(terms)
		wide[40] = longer
		if got := impl.ShowConstraint([][]impl.Term{wide}); got != "" {
			t.Errorf("201 bytes: %q", got)
		}
	}
	if got := impl.ShowConstraint([][]impl.Term{append(terms, terms...)}); got != "" {
		t.Errorf("401 bytes: %q", got)
	}
	// 33 alternatives of two bytes with four between them are 194 bytes, with a longer one up to 200.
	alternatives := slices.Repeat([][]impl.Term{{{Op: "=", Version: "1"}}}, 33)
	alternatives[0] = []impl.Term{{Op: ">=", Version: "123456"}}
	if got := impl.ShowConstraint(alternatives); len(got) != 200 {
		t.Errorf("%q", got)
	}
	alternatives[32] = []impl.Term{{Op: "=", Version: "12"}}
	if got := impl.ShowConstraint(alternatives); got != "" {
		t.Errorf("%q", got)
	}
	if got := impl.ShowConstraint(slices.Repeat([][]impl.Term{{{Op: "*"}}}, 100000)); got != "" {
		t.Errorf("%.100q", got)
	}
}

func TestShowConstraintOfWhatCannotBe(t *testing.T) {
	good := []impl.Term{{Op: "=", Version: "1"}}
	for _, term := range []impl.Term{
		{}, {Op: "="}, {Version: "1"}, {Op: "*", Version: "1"}, {Op: "*", Version: " "}, {Op: "==", Version: "1"}, {Op: "= ", Version: "1"}, {Op: " =", Version: "1"}, {Op: "=", Version: " 1"},
		{Op: "=", Version: "1 "}, {Op: "=", Version: "1 =2"}, {Op: "=", Version: "1 || =2"}, {Op: "", Version: "=1"}, {Op: ">", Version: "=1"}, {Op: "=1 =", Version: "2"}, {Op: "=1", Version: "2"},
		{Op: "=1", Version: ""}, {Op: "=", Version: "x"}, {Op: "=", Version: "1234567890123456"}, {Op: "=", Version: "1" + strings.Repeat("a", 30)}, {Op: "", Version: "*"}, {Op: "* ", Version: ""},
		{Op: "||", Version: "1"}, {Op: "* ||=", Version: "1"}, {Op: "=", Version: "1\n"}, {Op: "\xff", Version: "1"},
	} {
		for _, c := range [][][]impl.Term{{{term}}, {{good[0], term}}, {{term, good[0]}}, {good, {term}}, {{term}, good}} {
			if got := impl.ShowConstraint(c); got != "" {
				t.Errorf("%q is shown as %q", c, got)
			}
		}
	}
	star := impl.Term{Op: "*"}
	for _, c := range [][][]impl.Term{nil, {}, {nil}, {{}}, {good, {}}, {nil, good}, {{star, star}}, {{star, good[0]}}, {{good[0], star}}, {good, {star, good[0]}}} {
		if got := impl.ShowConstraint(c); got != "" {
			t.Errorf("%q is shown as %q", c, got)
		}
	}
}

// heldAgainstPlainConstraint reads a text in both ways, and shows what was read.
func heldAgainstPlainConstraint(t *testing.T, s string) {
	t.Helper()
	got, ok := impl.ReadConstraint(s)
	want, is := plainConstraint(s)
	if ok != is || len(got) != len(want) || len(want) > 0 && !reflect.DeepEqual(got, want) {
		t.Fatalf("%q is read as %q, %v, not as %q, %v", s, got, ok, want, is)
	}
	shown := impl.ShowConstraint(got)
	if again, isAgain := impl.ReadConstraint(shown); isAgain != ok || ok && !reflect.DeepEqual(again, got) {
		t.Fatalf("%q is shown as %q, which is read as %q", s, shown, again)
	}
}

func TestConstraintsOfAllShortTexts(t *testing.T) {
	everyText("1=>*| ", 6, func(s string) { heldAgainstPlainConstraint(t, s) })
	everyText("2!=<^~.", 5, func(s string) { heldAgainstPlainConstraint(t, s) })
}

func TestConstraintsByChance(t *testing.T) {
	m := rand.New(rand.NewSource(6))
	pieces := []string{"=1", ">=1.2", "<2-rc", "^3", "~1.2", "!=1", ">0", "<=9a", "*", " ", " ", " ", "  ", "||", " || ", "|", "=", "1", "!", "x", "\t"}
	read := 0
	for range 40000 {
		s := ""
		for range 1 + m.Intn(9) {
			s += pieces[m.Intn(len(pieces)-m.Intn(9))]
		}
		heldAgainstPlainConstraint(t, s)
		if _, ok := impl.ReadConstraint(s); ok {
			read++
		}
	}
	if read < 2000 {
		t.Error("too few are constraints:", read)
	}
}

func TestMatches(t *testing.T) {
	for _, row := range []struct {
		constraint string
		yes        string
		no         string
	}{
		{"*", "0 1 1.2 1-rc 999999999999999 0a", ""},
		{"=1.0", "1.0 1-0 01.00 1..0", "1 1.0.0 1.0a 1.1 0.9 10"},
		{"!=1.0", "1 1.0.0 1.0a 1.1 0.9 10", "1.0 1-0 01.00 1..0"},
		{">1.0", "1.0.0 1.1 2 1.10 10", "1.0 1-0 1.0rc 1 0.9"},
		{">=1.0", "1.0 1-0 1.0.0 1.1 2", "1.0-rc1 1 1a 0.9"},
		{"<1.0", "1.0-rc1 1 1a 0.9 0", "1.0 1-0 1.0.0 1.1 2"},
		{"<=1.0", "1.0-rc1 1 1a 0.9 1.0 1-0", "1.0.0 1.1 2"},
		{"^1", "1 1. 1.0 1.9.9 01 1.0a", "1a 1-rc1 1.a1.2 0 0.9 2 2a 10 11"},
		{"^1.2", "1.2 1.2.0 1.3 1.10 1.2-0 01.2", "1.1 1.2-rc1 1 1a 2 2.0 2a 0.2 12"},
		{"^1.2-rc2", "1.2-rc2 1.2rc3 1.2-rel 1.2 1.9 1.2-rc2.1", "1.2-rc1 1.2-beta 1.1 1 2 2-rc2"},
		{"^0", "0 0.1 00.9", "0a 1"},
		{"^0.1", "0.1 0.2 0.10", "0 0.0 0.0.9 1"},
		{"~1", "1 1. 01 1-", "1.0 1.1 1a 2 0"},
		{"~1.2", "1.2 1.2.7 1.2.0 1-2 1.02.5", "1.1 1.3 1.20 1 1.2rc 2.2 1.2-rc1 0.2"},
		{"~1.2.3", "1.2.3 1.2.4 1.2.3.4 1.2.10", "1.2.2 1.2 1.3.3 1.2.3-rc1 1.3"},
		{"~1rc", "1rc 1-rc 1rc0 1rc.5", "1 1.0 1rb 1rd 1rcc 1rca 1rc-a 2rc"},
		{"~1.rc2", "1rc2 1rc3 1-rc-2.0", "1rc1 1rc 1 1.2 1rd2"},
		{"~1.2-rc1", "1.2-rc1 1.2-rc2 1.2 1.2.9", "1.2-beta 1.3 1"},
		{">=1 <2", "1 1.0 1.9.9 2a 2-rc1", "1a 0 2 2.0 3"},
		{">=1 <2 || =3", "1 1.5 3", "0 2 3.0 3a 2.9"},
		{"=1||=2||=3", "1 2 3", "0 4 1.0"},
		{">1 <1", "", "0 1 1.0 2 1a"},
		{"=2 || *", "0 1 2 3a", ""},
		{">=1 !=1.5 <2 || ^3 !=3.0", "1 1.4 1.6 3 3.1", "1.5 1-5 3.0 4 0 2"},
	} {
		for _, v := range strings.Fields(row.yes) {
			if !impl.Matches(row.constraint, v) || !plainMatches(row.constraint, v) {
				t.Errorf("%s does not match %s", row.constraint, v)
			}
		}
		for _, v := range append(strings.Fields(row.no), "", "x", "1 ", "1234567890123456", "-1") {
			if impl.Matches(row.constraint, v) || plainMatches(row.constraint, v) {
				t.Errorf("%s matches %s", row.constraint, v)
			}
		}
	}
	for _, c := range []string{"", "!=1 *", "< 1", "* ||", "1", "=x"} {
		for _, v := range []string{"0", "1", "2", ""} {
			if impl.Matches(c, v) {
				t.Errorf("%q matches %q", c, v)
			}
		}
	}
}

func TestMatchesOfEachSignAndAllShortVersions(t *testing.T) {
	all := shortVersions("01a.", 4)
	for _, op := range strings.Fields("= != > >= < <= ^ ~") {
		for _, w := range shortVersions("01a.", 3) {
			for _, v := range all {
				if got := impl.Matches(op+w, v); got != plainMatches(op+w, v) {
					t.Fatalf("%s%s and %s: %v", op, w, v, got)
				}
			}
		}
	}
}

func TestMatchesOfRowsByChance(t *testing.T) {
	m := rand.New(rand.NewSource(7))
	versions := strings.Fields("0 1 1a 1.0 1-0 1.2 1.2rc1 1.2.3 1.3 2 2.0a 2.1 3 03")
	signs := strings.Fields("= != > >= < <= ^ ~")
	for range 1000 {
		alternatives := []string{}
		for range 1 + m.Intn(3) {
			terms := []string{}
			for range 1 + m.Intn(3) {
				terms = append(terms, signs[m.Intn(8)]+versions[m.Intn(len(versions))])
			}
			alternatives = append(alternatives, strings.Join(terms, " "))
		}
		c := strings.Join(alternatives, "||")
		for _, v := range versions {
			if got := impl.Matches(c, v); got != plainMatches(c, v) {
				t.Fatalf("%s and %s: %v", c, v, got)
			}
		}
	}
}

func best(t *testing.T, vs []string, c string, want int64) {
	t.Helper()
	if got := impl.Best(vs, c); got != want {
		t.Errorf("of %.200q %s takes %d, not %d", vs, c, got, want)
	}
}

func TestBest(t *testing.T) {
	for _, row := range []struct {
		versions   string
		constraint string
		want       int64
	}{
		{"", "*", -1}, {"1", "*", 0}, {"1 2 3", "*", 2}, {"3 2 1", "*", 0}, {"1 3 2", "*", 1}, {"1.2 1.10 1.9", "*", 1}, {"1.0-rc1 1.0 0.9", "*", 1}, {"1 1a 1.0", "*", 2},
		{"1.0 2.1 2.1.0 3", "^2", 2}, {"1.0 2.1 2.1.0 3", "=4", -1}, {"1.0 2.1 2.1.0 3", "<3", 2}, {"1.0 2.1 2.1.0 3", "<1", -1}, {"3 1 2", "!=3", 2}, {"1 2 3", "=1 || =2", 1},
		{"1.0 1-0 01.0", "*", 0}, {"0 1-0 1.0 01.0", "*", 1}, {"01.0 0 1.0 1-0 0", "=1.0", 0}, {"2 02 2. 2-", "^2", 0}, {"1 2- 2 02 1.9", "*", 1},
		{"x y z", "*", -1}, {"x 1 y 2 -3", "*", 3}, {"9x x9 9", "*", 2}, {"1 2 3", "", -1}, {"1 2 3", "2", -1}, {"1 2 3", "* =1", -1}, {"1 2 3", "x", -1},
	} {
		best(t, strings.Fields(row.versions), row.constraint, row.want)
	}
	best(t, nil, "*", -1)
	best(t, nil, "", -1)
	best(t, []string{"", " 2", "1", "2 "}, "*", 2)
}

func manyVersions(n int) []string {
	all := []string{}
	for i := range n {
		all = append(all, fmt.Sprint(i/1000, ".", i%1000))
	}
	return all
}

func TestVersionsOfMaxMany(t *testing.T) {
	many := manyVersions(impl.MaxMany + 1)
	best(t, many[:impl.MaxMany], "*", impl.MaxMany-1)
	best(t, many[:impl.MaxMany], "^0", 999)
	best(t, many[:impl.MaxMany], "=0.0", 0)
	best(t, many, "*", -1)
	best(t, many, "=0.0", -1)
	best(t, make([]string, impl.MaxMany+1), "*", -1)
	back := slices.Clone(many[:impl.MaxMany])
	slices.Reverse(back)
	if got := impl.SortVersions(many[:impl.MaxMany]); !slices.Equal(got, back) {
		t.Errorf("%.200q", got)
	}
	if got := impl.SortVersions(back); !slices.Equal(got, back) {
		t.Errorf("%.200q", got)
	}
	if got := impl.SortVersions(many); len(got) != 0 {
		t.Errorf("%.200q", got)
	}
	if got := impl.SortVersions(append(make([]string, impl.MaxMany), "1")); len(got) != 0 {
		t.Errorf("%.200q", got)
	}
	if got := impl.SortVersions(append(make([]string, impl.MaxMany-1), "1")); !slices.Equal(got, []string{"1"}) {
		t.Errorf("%.200q", got)
	}
	same := []string{}
	for i := range impl.MaxMany {
		same = append(same, []string{"1.0", "1-0", "01.0", "1..0"}[i*i%7%4])
	}
	best(t, same, "=1.0", 0)
	if got := impl.SortVersions(same); !slices.Equal(got, same) {
		t.Error("the same ones are not in their order")
	}
}

func TestSortVersions(t *testing.T) {
	for _, row := range [][2]string{
		{"", ""}, {"1", "1"}, {"1 2", "2 1"}, {"2 1", "2 1"}, {"1 x 2 1-0", "2 1-0 1"}, {"1.0 1-0 01.0", "1.0 1-0 01.0"}, {"01.0 1-0 1.0", "01.0 1-0 1.0"},
		{"1-0 2 1.0 02 1 01", "2 02 1-0 1.0 1 01"}, {"1.2 1.10 1.9", "1.10 1.9 1.2"}, {"1.0 1.0-rc1 1.0.0 1-0 1.0-rc2", "1.0.0 1.0 1-0 1.0-rc2 1.0-rc1"},
		{"x y", ""}, {"1 1 1", "1 1 1"}, {"1a 1 1.0 1b", "1.0 1 1b 1a"}, {"1234567890123456 123456789012345", "123456789012345"},
	} {
		if got := impl.SortVersions(strings.Fields(row[0])); !slices.Equal(got, strings.Fields(row[1])) {
			t.Errorf("%s are sorted to %q", row[0], got)
		}
	}
	if got := impl.SortVersions(nil); len(got) != 0 {
		t.Error(got)
	}
	if got := impl.SortVersions([]string{"", " 1", "1", "1 "}); !slices.Equal(got, []string{"1"}) {
		t.Errorf("%q", got)
	}
}

func TestBestAndSortVersionsByChance(t *testing.T) {
	m := rand.New(rand.NewSource(8))
	texts := strings.Fields("0 1 1a 1.0 1-0 01.0 1.2 1.2rc1 1.2.3 1.3 2 2.0a 2.1 3 03 3. x 1_ -2 1rc 1-rc")
	constraints := []string{"*", "^1", "~1.2", ">=1 <2", "=1.0", "!=3", "<1 || >2", "=9", "x", ">=1.2rc1"}
	for range 5000 {
		vs := []string{}
		for range m.Intn(12) {
			vs = append(vs, texts[m.Intn(len(texts))])
		}
		want := slices.DeleteFunc(slices.Clone(vs), func(v string) bool { return !plainVersionOk(v) })
		slices.SortStableFunc(want, func(a, b string) int { return int(plainCompare(b, a)) })
		if got := impl.SortVersions(vs); !slices.Equal(got, want) {
			t.Fatalf("%q are sorted to %q", vs, got)
		}
		c := constraints[m.Intn(len(constraints))]
		newest := int64(-1)
		for i, v := range vs {
			if plainMatches(c, v) && (newest < 0 || plainCompare(v, vs[newest]) == 1) {
				newest = int64(i)
			}
		}
		best(t, vs, c, newest)
	}
}

func TestVersionArgumentsStay(t *testing.T) {
	for _, vs := range [][]string{{"1", "x", "2", "1-0", "1.0", ""}, {}, {"3", "2", "1"}, manyVersions(impl.MaxMany), manyVersions(impl.MaxMany + 1)} {
		list, stays := roomy(vs, "room")
		impl.SortVersions(list)
		impl.Best(list, "^1 || >2")
		impl.Best(list, "no")
		if !stays() {
			t.Errorf("written into %.100q", vs)
		}
	}
	terms, stay := roomy([]impl.Term{{Op: ">", Version: "1"}, {Op: "<", Version: "2"}}, impl.Term{Op: "room"})
	others, remain := roomy([]impl.Term{{Op: "=", Version: "x"}}, impl.Term{Op: "room"})
	whole := [][]impl.Term{terms, others, others, others}
	for size := range 3 {
		impl.ShowConstraint(whole[:size])
	}
	if !stay() || !remain() || len(whole[2]) != 1 || len(whole[3]) != 1 {
		t.Error("written into a constraint")
	}
}

func TestVersionAnswersAreNewMemory(t *testing.T) {
	vs := []string{"1", "2", "x", "3"}
	first, second := impl.SortVersions(vs), impl.SortVersions(vs)
	clear(first[:cap(first)])
	third := impl.SortVersions(vs)
	if !slices.Equal(vs, []string{"1", "2", "x", "3"}) || !slices.Equal(second, []string{"3", "2", "1"}) || !slices.Equal(third, second) {
		t.Error("two lists share memory:", vs, second, third)
	}
	text := ">=1 <2 || =3 || * || ^4 !=4.1 !=4.2"
	want, _ := plainConstraint(text)
	one, _ := impl.ReadConstraint(text)
	two, _ := impl.ReadConstraint(text)
	for at := range one {
		fresh, _ := impl.ReadConstraint(text)
		clear(fresh[at][:cap(fresh[at])])
		for other := range fresh {
			if other != at && !reflect.DeepEqual(fresh[other], want[other]) {
				t.Errorf("alternatives %d and %d share memory: %q", at, other, fresh)
			}
		}
		clear(one[at][:cap(one[at])])
	}
	clear(one[:cap(one)])
	if again, ok := impl.ReadConstraint(text); !ok || !reflect.DeepEqual(two, want) || !reflect.DeepEqual(again, want) {
		t.Error("two answers share memory:", two, again)
	}
	if none, _ := impl.ReadConstraint("x"); cap(none) > 0 {
		none[:1][0] = want[0]
	}
	if none, ok := impl.ReadConstraint("x"); ok || len(none) != 0 {
		t.Error(none)
	}
}
