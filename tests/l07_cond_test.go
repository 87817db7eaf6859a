package tests

import (
	"fmt"
	"go/ast"
	"go/parser"
	"go/token"
	"math"
	"math/rand"
	"reflect"
	"slices"
	"strings"
	"testing"

	"loop.example/g00023/impl"
)

// cond puts a list together; its Size is right.
func cond(kind int64, name string, parts ...[]impl.Cond) []impl.Cond {
	cs := []impl.Cond{{Kind: kind, Name: name}}
	for _, part := range parts {
		cs = append(cs, part...)
	}
	cs[0].Size = int64(len(cs) - 1)
	return cs
}

func flag(name string) []impl.Cond { return cond(impl.CondFlag, name) }

func not(part []impl.Cond) []impl.Cond { return cond(impl.CondNot, "", part) }

func all(parts ...[]impl.Cond) []impl.Cond { return cond(impl.CondAll, "", parts...) }

func either(parts ...[]impl.Cond) []impl.Cond { return cond(impl.CondAny, "", parts...) }

func yes() []impl.Cond { return cond(impl.CondTrue, "") }

func no() []impl.Cond { return cond(impl.CondFalse, "") }

func flagsOf(names string) [][]impl.Cond {
	parts := [][]impl.Cond{}
	for _, name := range strings.Fields(names) {
		parts = append(parts, flag(name))
	}
	return parts
}

func manyFlags(n int) [][]impl.Cond { return flagsOf(strings.Repeat("a ", n)) }

// A plainCond is a condition as the tests know it.
type plainCond struct {
	kind  int64
	name  string
	parts []plainCond
}

func (p plainCond) list() []impl.Cond {
	parts := [][]impl.Cond{}
	for _, part := range p.parts {
		parts = append(parts, part.list())
	}
	return cond(p.kind, p.name, parts...)
}

func plainCutCond(cs []impl.Cond) [][]impl.Cond {
	parts := [][]impl.Cond{}
	for at := 1; at < len(cs); at += 1 + int(cs[at].Size) {
		parts = append(parts, cs[at:at+1+int(cs[at].Size)])
	}
	return parts
}

// plainTreeOf takes a list that can be.
func plainTreeOf(cs []impl.Cond) plainCond {
	p := plainCond{kind: cs[0].Kind, name: cs[0].Name}
	for _, part := range plainCutCond(cs) {
		p.parts = append(p.parts, plainTreeOf(part))
	}
	return p
}

// plainCondOk goes through the list once, with the ends of the nodes around and how many parts each has so far.
func plainCondOk(cs []impl.Cond) bool {
	type around struct {
		kind  int64
		end   int
		parts int
	}
	open := []around{}
	closes := func(at int) bool {
		for len(open) > 0 && open[len(open)-1].end == at {
			last := open[len(open)-1]
			least := []int{0, 0, 0, 0, 1, 2, 2}[last.kind]
			most := []int{0, 0, 0, 0, 1, 300, 300}[last.kind]
			if last.parts < least || last.parts > most {
				return false
			}
			open = open[:len(open)-1]
		}
		return true
	}
	for at, c := range cs {
		if c.Kind < 1 || c.Kind > 6 || c.Size < 0 || c.Size > int64(len(cs)) || len(open) > 60 || at > 0 && len(open) == 0 {
			return false
		}
		named := plainNames60.MatchString(c.Name) && c.Name != "true" && c.Name != "false"
		if c.Kind == 1 && !named || c.Kind != 1 && c.Name != "" {
			return false
		}
		end := at + 1 + int(c.Size)
		if len(open) > 0 {
			if end > open[len(open)-1].end {
				return false
			}
			open[len(open)-1].parts++
		}
		open = append(open, around{kind: c.Kind, end: end})
		if !closes(at + 1) {
			return false
		}
	}
	return len(cs) >= 1 && len(cs) <= 300 && len(open) == 0
}

func (p plainCond) holds(flags []string) bool {
	held := 0
	for _, part := range p.parts {
		if part.holds(flags) {
			held++
		}
	}
	return map[int64]bool{1: slices.Contains(flags, p.name), 2: true, 3: false, 4: held == 0, 5: held == len(p.parts), 6: held > 0}[p.kind]
}

func sameCond(a, b []impl.Cond) bool {
	return slices.Equal(a, b)
}

// condCan holds all functions of one list against whether it can be.
func condCan(t *testing.T, what string, cs []impl.Cond, want bool) {
	t.Helper()
	if impl.CondOk(cs) != want || plainCondOk(cs) != want {
		t.Errorf("%s: CondOk is %v, in plain words %v, wanted %v", what, impl.CondOk(cs), plainCondOk(cs), want)
	}
	if want {
		return
	}
	for _, flags := range [][]string{nil, {"a"}, {"a", "b", "c"}} {
		if impl.Holds(cs, flags) {
			t.Errorf("%s holds with %q", what, flags)
		}
	}
	if impl.ShowCond(cs) != "" || len(impl.Plain(cs)) != 0 || len(impl.Flags(cs)) != 0 {
		t.Errorf("%s: %q %v %q", what, impl.ShowCond(cs), impl.Plain(cs), impl.Flags(cs))
	}
}

func TestLimitsAndKindsOfConditions(t *testing.T) {
	if impl.MaxCond != 300 || impl.MaxNest != 60 {
		t.Error(impl.MaxCond, impl.MaxNest)
	}
	if got := []int{impl.CondFlag, impl.CondTrue, impl.CondFalse, impl.CondNot, impl.CondAll, impl.CondAny}; !slices.Equal(got, []int{1, 2, 3, 4, 5, 6}) {
		t.Error(got)
	}
}

func TestCondOkOfEachKindWithEachNumberOfParts(t *testing.T) {
	least := map[int64]int{impl.CondNot: 1, impl.CondAll: 2, impl.CondAny: 2}
	most := map[int64]int{impl.CondNot: 1, impl.CondAll: 299, impl.CondAny: 299}
	names := []string{"", "a", "true", "false", "True", ".a", "a.b", "a b", "é", strings.Repeat("n", 60), strings.Repeat("n", 61)}
	for kind := int64(-2); kind <= 9; kind++ {
		for parts := range 6 {
			for _, name := range names {
				named := name == ""
				if kind == impl.CondFlag {
					named = name != "true" && name != "false" && plainNames60.MatchString(name)
				}
				want := kind >= 1 && kind <= 6 && named && parts >= least[kind] && parts <= most[kind]
				what := fmt.Sprintf("kind %d, %d parts, name %q", kind, parts, name)
				cs := cond(kind, name, manyFlags(parts)...)
				condCan(t, what, cs, want)
				condCan(t, "not of "+what, not(cs), want)
				condCan(t, "all of "+what, all(yes(), cs), want)
				condCan(t, "any of "+what, either(cs, no()), want)
			}
		}
	}
	for _, kind := range []int64{math.MinInt64, math.MaxInt64, -1, 0, 7, 1 << 32, 1<<32 + 1} {
		condCan(t, fmt.Sprint("kind ", kind), cond(kind, "a"), false)
		condCan(t, fmt.Sprint("kind ", kind), cond(kind, ""), false)
	}
}

func TestCondOkOfNames(t *testing.T) {
	for _, b := range allBytes() {
		fits := plainNames60.MatchString("a" + string([]byte{b}))
		condCan(t, fmt.Sprintf("the flag a%q", b), flag("a"+string([]byte{b})), fits)
		condCan(t, fmt.Sprintf("the flag %qa", b), flag(string([]byte{b})+"a"), fits && b != '.')
		condCan(t, fmt.Sprintf("the flag %q", b), flag(string([]byte{b})), fits && b != '.')
	}
	for _, name := range []string{"true", "false"} {
		condCan(t, name, flag(name), false)
		condCan(t, name+" within", all(flag("a"), not(flag(name))), false)
	}
	for _, name := range []string{"True", "FALSE", "true1", "xtrue", "true-false", "not", "any", "0", "-", "+", "_"} {
		condCan(t, name, flag(name), true)
	}
}

func TestCondOkOfWrongLists(t *testing.T) {
	condCan(t, "nil", nil, false)
	condCan(t, "nothing", []impl.Cond{}, false)
	condCan(t, "zero", make([]impl.Cond, 1), false)
	condCan(t, "two on top", append(flag("a"), flag("b")...), false)
	condCan(t, "one more behind", append(all(manyFlags(2)...), flag("b")...), false)
	condCan(t, "a cut one", all(manyFlags(3)...)[:3], false)
	condCan(t, "a not of nothing", cond(impl.CondNot, ""), false)
	condCan(t, "a row within that is too short", either(all(flag("a")), flag("b")), false)
}

// Every Size of some conditions is changed, which may leave one that can be.
func TestCondOkOfSizes(t *testing.T) {
	wholes := [][]impl.Cond{
		flag("a"), yes(), not(no()), all(manyFlags(2)...), either(all(manyFlags(2)...), flag("b")), either(flag("a"), all(manyFlags(2)...), flag("b"), flag("c")),
		all(not(either(manyFlags(3)...)), yes(), either(not(not(flag("b"))), flag("c"))), not(not(all(flag("a"), all(flag("a"), all(manyFlags(3)...))))),
	}
	seen := map[bool]int{}
	for _, whole := range wholes {
		condCan(t, fmt.Sprint(whole), whole, true)
		for at := range whole {
			for _, size := range []int64{-1, 0, 1, 2, 3, 4, 5, 6, 7, 8, 9, 300, math.MaxInt64, math.MinInt64, math.MaxInt32, 1 << 32} {
				cs := slices.Clone(whole)
				cs[at].Size = size
				can := plainCondOk(cs)
				seen[can]++
				condCan(t, fmt.Sprint(cs), cs, can)
			}
		}
	}
	if seen[true] < 30 || seen[false] < 300 {
		t.Error(seen)
	}
}

func nestedNots(times int, inside []impl.Cond) []impl.Cond {
	for range times {
		inside = not(inside)
	}
	return inside
}

func nestedRows(kind int64, times int, inside []impl.Cond) []impl.Cond {
	for range times {
		inside = cond(kind, "", flag("b"), inside)
	}
	return inside
}

func TestCondOkAtItsLimits(t *testing.T) {
	for _, kind := range []int64{impl.CondAll, impl.CondAny} {
		condCan(t, "MaxCond nodes", cond(kind, "", manyFlags(299)...), true)
		condCan(t, "one more", cond(kind, "", manyFlags(300)...), false)
		condCan(t, "very many", cond(kind, "", manyFlags(5000)...), false)
		condCan(t, "MaxCond nodes under a not", not(cond(kind, "", manyFlags(298)...)), true)
		condCan(t, "one more under a not", not(cond(kind, "", manyFlags(299)...)), false)
		condCan(t, "MaxNest rows", nestedRows(kind, 60, flag("a")), true)
		condCan(t, "one row more", nestedRows(kind, 61, flag("a")), false)
		condCan(t, "MaxNest rows, the last of them wide", nestedRows(kind, 59, cond(kind, "", manyFlags(181)...)), true)
		condCan(t, "MaxNest rows, the last of them too wide", nestedRows(kind, 59, cond(kind, "", manyFlags(182)...)), false)
		condCan(t, "rows and nots", nestedRows(kind, 30, nestedNots(30, flag("a"))), true)
		condCan(t, "rows and nots, one more", nestedRows(kind, 30, nestedNots(31, flag("a"))), false)
	}
	condCan(t, "MaxNest nots", nestedNots(60, flag("a")), true)
	condCan(t, "one not more", nestedNots(61, flag("a")), false)
	condCan(t, "MaxNest nots of true", nestedNots(60, yes()), true)
	condCan(t, "one not more of true", nestedNots(61, yes()), false)
	condCan(t, "very many nots", nestedNots(299, flag("a")), false)
}

func readsCond(t *testing.T, s string, want []impl.Cond, shown string) {
	t.Helper()
	if got, ok := impl.ReadCond(s); !ok || !sameCond(got, want) {
		t.Errorf("%.200q is read as %v, %v", s, got, ok)
	}
	if got := impl.ShowCond(want); got != shown {
		t.Errorf("%.200q is shown as %q", s, got)
	}
	if again, ok := impl.ReadCond(shown); !ok || !sameCond(again, want) {
		t.Errorf("%.200q is read as %v, %v", shown, again, ok)
	}
}

func noCond(t *testing.T, s string) {
	t.Helper()
	if got, ok := impl.ReadCond(s); ok || len(got) != 0 {
		t.Errorf("%.200q is read as %v, %v", s, got, ok)
	}
}

func TestReadCondAndShowCond(t *testing.T) {
	a, b, c, d := flag("a"), flag("b"), flag("c"), flag("d")
	for _, row := range []struct {
		text  string
		want  []impl.Cond
		shown string
	}{
		{"a", a, "a"}, {"true", yes(), "true"}, {"false", no(), "false"}, {"!a", not(a), "!a"}, {"!!a", not(not(a)), "!!a"}, {"!true", not(yes()), "!true"}, {"! ! !false", not(not(not(no()))), "!!!false"},
		{"a&b", all(a, b), "a&b"}, {"a|b", either(a, b), "a|b"}, {"a&b&c", all(a, b, c), "a&b&c"}, {"a|b|c", either(a, b, c), "a|b|c"}, {"a|a|a|a", either(a, a, a, a), "a|a|a|a"},
		{"a&b|c", either(all(a, b), c), "(a&b)|c"}, {"a|b&c", either(a, all(b, c)), "a|(b&c)"}, {"a&b|c&d", either(all(a, b), all(c, d)), "(a&b)|(c&d)"}, {"a|b&c|d", either(a, all(b, c), d), "a|(b&c)|d"},
		{"(a|b)&c", all(either(a, b), c), "(a|b)&c"}, {"a&(b|c)&d", all(a, either(b, c), d), "a&(b|c)&d"},
		{"(a&b)&c", all(all(a, b), c), "(a&b)&c"}, {"a&(b&c)", all(a, all(b, c)), "a&(b&c)"}, {"(a|b)|c", either(either(a, b), c), "(a|b)|c"}, {"a|(b|(c|d))", either(a, either(b, either(c, d))), "a|(b|(c|d))"},
		{"((a&b)&(c&d))", all(all(a, b), all(c, d)), "(a&b)&(c&d)"}, {"(a&b)|c&d", either(all(a, b), all(c, d)), "(a&b)|(c&d)"},
		{"(a)", a, "a"}, {"((a))", a, "a"}, {"(a&b)", all(a, b), "a&b"}, {"((a)&(b))", all(a, b), "a&b"}, {"(((a|b)))", either(a, b), "a|b"}, {"(true)|(false)", either(yes(), no()), "true|false"},
		{"!(a)", not(a), "!a"}, {"!(!a)", not(not(a)), "!!a"}, {"(!a)", not(a), "!a"}, {"!(a&b)", not(all(a, b)), "!(a&b)"}, {"!(a|b)", not(either(a, b)), "!(a|b)"}, {"!((a|b))", not(either(a, b)), "!(a|b)"},
		{"!a&b", all(not(a), b), "!a&b"}, {"!a|!b", either(not(a), not(b)), "!a|!b"}, {"!(a&b)&c", all(not(all(a, b)), c), "!(a&b)&c"}, {"!!(a|b)", not(not(either(a, b))), "!!(a|b)"}, {"a&!(b|c)", all(a, not(either(b, c))), "a&!(b|c)"},
		{" a & !(b | c&d) | true ", either(all(a, not(either(b, all(c, d)))), yes()), "(a&!(b|(c&d)))|true"},
		{"   a   ", a, "a"}, {" ( a ) ", a, "a"}, {"a  &  b", all(a, b), "a&b"}, {"! ( a | b )", not(either(a, b)), "!(a|b)"}, {"!  a", not(a), "!a"},
		{"truex", flag("truex"), "truex"}, {"true.", flag("true."), "true."}, {"xfalse", flag("xfalse"), "xfalse"}, {"True|FALSE", either(flag("True"), flag("FALSE")), "True|FALSE"}, {"true-false", flag("true-false"), "true-false"},
		{"x86_64-linux&c++", all(flag("x86_64-linux"), flag("c++")), "x86_64-linux&c++"}, {"1.2|-|_|+", either(flag("1.2"), flag("-"), flag("_"), flag("+")), "1.2|-|_|+"}, {"a.b", flag("a.b"), "a.b"}, {"true&true", all(yes(), yes()), "true&true"},
	} {
		readsCond(t, row.text, row.want, row.shown)
	}
}

func TestReadCondOfWhatIsNone(t *testing.T) {
	for _, s := range []string{
		"", " ", "   ", "()", "( )", "(", ")", "!", "&", "|", "!!", "a &", "a & ", "& a", "a |", "| a", "a&&b", "a||b", "a & & b", "a |& b", "a&|b", "a b", "a  b", "true false", "a true", "a !b", "a!b", "a!", "!&a", "a(b)", "(a)b", "(a)(b)",
		"(a", "a)", "((a)", "(a))", "(a&b", "a&b)", "a&(b", "a&()", "()a", "!()", "a&(b|)", "(|a)", "a,b", "a;b", "a=b", "a -> b", "a == b", "not a", "~a", "[a]", "{a}", "\"a\"", "'a", "a#b", "a/b", "a@b", "a:b", "a*b", "a?", "$a",
		".a", ".", "a&.b", ".true", "é", "a\xff", "\xff", "a\x00", "a\tb", "a\t", "\ta", "a\n", "\na", "a &\n b", "a\r", "a\u00a0&b", "a\v", strings.Repeat("n", 61), "a&" + strings.Repeat("n", 61),
	} {
		noCond(t, s)
	}
	for _, b := range allBytes() {
		s := string([]byte{b})
		if plainNames60.MatchString("a" + s) {
			readsCond(t, "a"+s, flag("a"+s), "a"+s)
		} else if s == " " {
			readsCond(t, "a"+s, flag("a"), "a")
		} else {
			noCond(t, "a"+s)
		}
	}
	readsCond(t, strings.Repeat("n", 60), flag(strings.Repeat("n", 60)), strings.Repeat("n", 60))
}

func TestReadCondAtItsLimits(t *testing.T) {
	for _, sign := range []string{"&", "|"} {
		kind := map[string]int64{"&": impl.CondAll, "|": impl.CondAny}[sign]
		row := func(n int) string { return strings.Repeat("a"+sign, n-1) + "a" }
		readsCond(t, row(299), cond(kind, "", manyFlags(299)...), row(299))
		noCond(t, row(300))
		noCond(t, row(2000))
		readsCond(t, "!("+row(298)+")", not(cond(kind, "", manyFlags(298)...)), "!("+row(298)+")")
		noCond(t, "!("+row(299)+")")
		deep := func(n int) string { return strings.Repeat("b"+sign+"(", n) + "a" + strings.Repeat(")", n) }
		shown := func(n int) string { return deep(n - 1)[:3*n-3] + "b" + sign + "a" + strings.Repeat(")", n-1) }
		readsCond(t, deep(60), nestedRows(kind, 60, flag("a")), shown(60))
		noCond(t, deep(61))
		noCond(t, deep(900))
	}
	readsCond(t, strings.Repeat("!", 60)+"a", nestedNots(60, flag("a")), strings.Repeat("!", 60)+"a")
	noCond(t, strings.Repeat("!", 61)+"a")
	noCond(t, strings.Repeat("!", 3999)+"a")
	noCond(t, strings.Repeat("!", 4000))
	noCond(t, strings.Repeat("(", 4000))
	// Brackets are no nodes, so they nest as deep as the text is long.
	readsCond(t, strings.Repeat("(", 1999)+"a"+strings.Repeat(")", 1999), flag("a"), "a")
	noCond(t, strings.Repeat("(", 1999)+"a"+strings.Repeat(")", 1998))
	blanks := strings.Repeat(" ", impl.MaxText)
	readsCond(t, "a"+blanks[1:], flag("a"), "a")
	readsCond(t, blanks[1:]+"a", flag("a"), "a")
	readsCond(t, "a&"+blanks[3:]+"b", all(flag("a"), flag("b")), "a&b")
	noCond(t, "a"+blanks)
	noCond(t, blanks+"a")
	noCond(t, "a&"+blanks[2:]+"b")
	noCond(t, blanks)
	noCond(t, strings.Repeat("(", 2000)+"a"+strings.Repeat(")", 2000))
}

// ShowCond shows just what ReadCond reads: MaxText bytes, and none more.
func TestShowCondOfMaxText(t *testing.T) {
	name := func(n int) []impl.Cond { return flag(strings.Repeat("n", n)) }
	parts := [][]impl.Cond{}
	for range 65 {
		parts = append(parts, name(60))
	}
	// 65 names of 60 bytes, with a sign behind each, have 3965 bytes.
	whole := all(append(parts, name(35))...)
	if got := impl.ShowCond(whole); len(got) != impl.MaxText {
		t.Errorf("%d bytes", len(got))
	}
	readsCond(t, impl.ShowCond(whole), whole, impl.ShowCond(whole))
	longer := all(append(parts, name(36))...)
	if got := impl.ShowCond(longer); got != "" || !impl.CondOk(longer) {
		t.Errorf("%d bytes", len(got))
	}
	if impl.Holds(longer, []string{strings.Repeat("n", 60)}) || !impl.Holds(longer, []string{strings.Repeat("n", 60), strings.Repeat("n", 36)}) || len(impl.Flags(longer)) != 2 || !sameCond(impl.Plain(longer), longer) {
		t.Error("what can't be shown is no condition")
	}
}

// condByGo has Go's own reader read the text, whose signs are as tight as ours are.
func condByGo(s string) (plainCond, bool) {
	e, err := parser.ParseExpr(strings.NewReplacer("&", "&&", "|", "||").Replace(s))
	if err != nil {
		return plainCond{}, false
	}
	return condFromGo(e)
}

func condFromGo(e ast.Expr) (plainCond, bool) {
	switch e := e.(type) {
	case *ast.ParenExpr:
		return condFromGo(e.X)
	case *ast.Ident:
		switch e.Name {
		case "true":
			return plainCond{kind: impl.CondTrue}, true
		case "false":
			return plainCond{kind: impl.CondFalse}, true
		}
		return plainCond{kind: impl.CondFlag, name: e.Name}, true
	case *ast.UnaryExpr:
		of, ok := condFromGo(e.X)
		return plainCond{kind: impl.CondNot, parts: []plainCond{of}}, ok && e.Op == token.NOT
	case *ast.BinaryExpr:
		kind, known := map[token.Token]int64{token.LAND: impl.CondAll, token.LOR: impl.CondAny}[e.Op]
		left, ok := condFromGo(e.X)
		right, also := condFromGo(e.Y)
		parts := []plainCond{left, right}
		if x, isRow := e.X.(*ast.BinaryExpr); isRow && x.Op == e.Op {
			parts = append(slices.Clone(left.parts), right)
		}
		return plainCond{kind: kind, parts: parts}, known && ok && also
	}
	return plainCond{}, false
}

func heldAgainstGo(t *testing.T, s string) bool {
	t.Helper()
	got, ok := impl.ReadCond(s)
	want, is := condByGo(s)
	if ok != is || !ok && len(got) != 0 || ok && !sameCond(got, want.list()) {
		t.Fatalf("%q is read as %v, %v, not as %v, %v", s, got, ok, want, is)
	}
	if shown := impl.ShowCond(got); ok {
		if again, isRead := impl.ReadCond(shown); !isRead || !sameCond(again, got) || strings.Contains(shown, " ") {
			t.Fatalf("%q is shown as %q, which is read as %v", s, shown, again)
		}
	}
	return ok
}

func TestReadCondOfAllShortTexts(t *testing.T) {
	read := 0
	everyText("ab&|!() ", 6, func(s string) {
		if heldAgainstGo(t, s) {
			read++
		}
	})
	if read < 1000 {
		t.Error("too few are conditions:", read)
	}
}

func TestReadCondOfRowsByChance(t *testing.T) {
	m := rand.New(rand.NewSource(9))
	words := strings.Fields("a b true false truer a_b & | & | ! ( ) ( )")
	read := 0
	for range 100000 {
		row := []string{}
		for range 1 + m.Intn(11) {
			row = append(row, words[m.Intn(len(words))])
		}
		if heldAgainstGo(t, strings.Join(row, strings.Repeat(" ", m.Intn(3)))) {
			read++
		}
	}
	if read < 300 {
		t.Error("too few are conditions:", read)
	}
}

// A condMaker makes conditions of a few names.
type condMaker struct{ *rand.Rand }

func (m condMaker) grow(depth int) plainCond {
	kind := []int64{1, 1, 2, 3, 4, 4, 5, 5, 5, 6, 6, 6}[m.Intn(12)]
	if depth == 0 {
		kind = []int64{1, 1, 1, 2, 3}[m.Intn(5)]
	}
	p := plainCond{kind: kind}
	parts := 0
	switch kind {
	case impl.CondFlag:
		p.name = []string{"a", "b", "c", "d-1", "e.+_"}[m.Intn(5)]
	case impl.CondNot:
		parts = 1
	case impl.CondAll, impl.CondAny:
		parts = 2 + m.Intn(3)
	}
	for range parts {
		p.parts = append(p.parts, m.grow(depth-1))
	}
	return p
}

// shown puts a bracket and a blank wherever one may stand, by chance; parts that need brackets have them.
func (m condMaker) shown(p plainCond, within bool) string {
	s := p.name
	switch p.kind {
	case impl.CondTrue:
		s = "true"
	case impl.CondFalse:
		s = "false"
	case impl.CondNot:
		s = "!" + m.shown(p.parts[0], true)
	case impl.CondAll, impl.CondAny:
		texts := []string{}
		for _, part := range p.parts {
			texts = append(texts, m.shown(part, p.kind == impl.CondAll || part.kind == impl.CondAny))
		}
		s = strings.Join(texts, map[int64]string{impl.CondAll: "&", impl.CondAny: "|"}[p.kind])
	}
	isRow := p.kind == impl.CondAll || p.kind == impl.CondAny
	if isRow && within || m.Intn(5) == 0 {
		s = "(" + strings.Repeat(" ", m.Intn(2)) + s + ")"
	}
	return strings.Repeat(" ", m.Intn(2)) + s + strings.Repeat(" ", m.Intn(2))
}

var someFlags = func() [][]string {
	sets := [][]string{}
	for bits := range 32 {
		set := []string{}
		for i, name := range []string{"e.+_", "a", "d-1", "b", "c"} {
			if bits>>i&1 == 1 {
				set = append(set, name)
			}
		}
		sets = append(sets, set)
	}
	return sets
}()

// isPlain says so from the words of the chapter.
func (p plainCond) isPlain() bool {
	for _, part := range p.parts {
		if p.kind == impl.CondNot && part.kind != impl.CondFlag || p.kind == part.kind || !part.isPlain() {
			return false
		}
	}
	return true
}

// step does one of the changes of Plain at the first place where one can be done.
func (p plainCond) step() (plainCond, bool) {
	if p.kind == impl.CondNot {
		of := p.parts[0]
		switch of.kind {
		case impl.CondTrue:
			return plainCond{kind: impl.CondFalse}, true
		case impl.CondFalse:
			return plainCond{kind: impl.CondTrue}, true
		case impl.CondNot:
			return of.parts[0], true
		case impl.CondAll, impl.CondAny:
			turned := plainCond{kind: impl.CondAll + impl.CondAny - of.kind}
			for _, part := range of.parts {
				turned.parts = append(turned.parts, plainCond{kind: impl.CondNot, parts: []plainCond{part}})
			}
			return turned, true
		}
	}
	for i, part := range p.parts {
		if part.kind == p.kind && p.kind >= impl.CondAll {
			return plainCond{kind: p.kind, parts: slices.Concat(p.parts[:i], part.parts, p.parts[i+1:])}, true
		}
		if changed, is := part.step(); is {
			return plainCond{kind: p.kind, parts: slices.Concat(p.parts[:i], []plainCond{changed}, p.parts[i+1:])}, true
		}
	}
	return p, false
}

func (p plainCond) made() plainCond {
	for {
		next, more := p.step()
		if !more {
			return p
		}
		p = next
	}
}

func TestConditionsByChance(t *testing.T) {
	m := condMaker{rand.New(rand.NewSource(10))}
	large := 0
	for range 4000 {
		p := m.grow(m.Intn(9))
		cs := p.list()
		condCan(t, fmt.Sprint(cs), cs, len(cs) <= 300)
		if len(cs) > 300 {
			continue
		}
		shown := impl.ShowCond(cs)
		if again, ok := impl.ReadCond(shown); !ok || !sameCond(again, cs) {
			t.Fatalf("%v is shown as %q, which is read as %v", cs, shown, again)
		}
		if other := m.shown(p, false); len(other) <= 4000 {
			if again, ok := impl.ReadCond(other); !ok || !sameCond(again, cs) {
				t.Fatalf("%v is %q, which is read as %v, %v", cs, other, again, ok)
			}
		}
		want := p.made().list()
		plain := impl.Plain(cs)
		if len(want) > 300 {
			want = nil
		}
		if !sameCond(plain, want) {
			t.Fatalf("%s is made plain as %s", shown, impl.ShowCond(plain))
		}
		for _, flags := range someFlags {
			held := p.holds(flags)
			if impl.Holds(cs, flags) != held || want != nil && impl.Holds(plain, flags) != held {
				t.Fatalf("%s with %q: %v, made plain %v", shown, flags, impl.Holds(cs, flags), impl.Holds(plain, flags))
			}
		}
		if want != nil && (!plainTreeOf(plain).isPlain() || !sameCond(impl.Plain(plain), plain) || !slices.Equal(plainNamesIn(plain), impl.Flags(cs))) {
			t.Fatalf("%s is made plain as %s", shown, impl.ShowCond(plain))
		}
		if got := impl.Flags(cs); !slices.Equal(got, plainNamesIn(cs)) {
			t.Fatalf("in %s are %q", shown, got)
		}
		if len(cs) > 100 {
			large++
		}
	}
	if large < 50 {
		t.Error("too few are large:", large)
	}
}

func plainNamesIn(cs []impl.Cond) []string {
	names := []string{}
	for _, c := range cs {
		if c.Kind == impl.CondFlag && !slices.Contains(names, c.Name) {
			names = append(names, c.Name)
		}
	}
	slices.Sort(names)
	return names
}

// Lists of nodes by chance, most of which can't be.
func TestListsOfCondsByChance(t *testing.T) {
	m := rand.New(rand.NewSource(11))
	seen := map[bool]int{}
	for range 200000 {
		cs := []impl.Cond{}
		size := 1 + m.Intn(6)
		for at := range size {
			kind := int64(1 + m.Intn(6))
			c := impl.Cond{Kind: kind, Size: []int64{0, 0, 0, 0, 1, 2, 2}[kind]}
			if kind == impl.CondFlag && m.Intn(20) > 0 || m.Intn(20) == 0 {
				c.Name = "a"
			}
			if kind > impl.CondNot && m.Intn(3) > 0 || m.Intn(20) == 0 {
				c.Size = int64(m.Intn(size+1-at) + m.Intn(2) - m.Intn(2))
			}
			if at == 0 && m.Intn(20) > 0 {
				c.Size = int64(size - 1)
			}
			cs = append(cs, c)
		}
		can := plainCondOk(cs)
		seen[can]++
		condCan(t, fmt.Sprint(cs), cs, can)
		if _, ok := impl.ReadCond(impl.ShowCond(cs)); ok != can {
			t.Errorf("%v is shown as %q", cs, impl.ShowCond(cs))
		}
	}
	if seen[true] < 5000 || seen[false] < 5000 {
		t.Error(seen)
	}
}

func readCond(t *testing.T, s string) []impl.Cond {
	t.Helper()
	cs, ok := impl.ReadCond(s)
	if !ok {
		t.Fatalf("%q is not read", s)
	}
	return cs
}

func TestHolds(t *testing.T) {
	for _, row := range []struct {
		text  string
		holds string
		fails string
	}{
		{"true", "/a/a b", ""}, {"false", "", "/a/false/true"}, {"a", "a/a b/b a/a a", "/b/A/aa/ab"}, {"!a", "/b/aa", "a/a b"}, {"!!a", "a", "/b"}, {"!true", "", "/a/true"}, {"!false", "/a/false", ""},
		{"a&b", "a b/b a c", "/a/b/c"}, {"a|b", "a/b/a b", "/c"}, {"a&b&c", "a b c", "/a b/b c/a c/a"}, {"a|b|c", "a/b/c", "/d"}, {"a&!b", "a/a c", "/b/a b"}, {"!(a|b)", "/c", "a/b/a b"}, {"!(a&b)", "/a/b", "a b"},
		{"a|b&c", "a/b c/a b c", "/b/c"}, {"(a|b)&c", "a c/b c", "/a/b/c/a b"}, {"a&true", "a", "/b/true"}, {"a|false", "a", "/b/false"}, {"a&a", "a", "/b"}, {"a&!a", "", "/a"}, {"a|!a", "/a", ""},
		{"linux&!musl|darwin", "linux/darwin/darwin musl linux", "/musl/linux musl"}, {"x86_64-linux&c++", "c++ x86_64-linux", "c++/x86_64-linux"},
	} {
		cs := readCond(t, row.text)
		for want, sets := range map[bool]string{true: row.holds, false: row.fails} {
			for _, set := range strings.Split(sets, "/") {
				if sets == "" {
					continue
				}
				if got := impl.Holds(cs, strings.Fields(set)); got != want {
					t.Errorf("%s with %q: %v", row.text, set, got)
				}
			}
		}
	}
	if !impl.Holds(yes(), nil) || impl.Holds(flag("a"), nil) || !impl.Holds(not(flag("a")), nil) || impl.Holds(flag("a"), []string{"", "a ", " a", "a b"}) {
		t.Error("with no flag that is asked for")
	}
}

func TestHoldsWithMaxManyFlags(t *testing.T) {
	flags := []string{}
	for n := range impl.MaxMany + 1 {
		flags = append(flags, fmt.Sprint("f", n))
	}
	last := flag(flags[impl.MaxMany-1])
	if !impl.Holds(last, flags[:impl.MaxMany]) || !impl.Holds(flag("f0"), flags[:impl.MaxMany]) || impl.Holds(flag("f2000"), flags[:impl.MaxMany]) || !impl.Holds(yes(), flags[:impl.MaxMany]) {
		t.Error("with MaxMany flags")
	}
	for _, cs := range [][]impl.Cond{last, flag("f0"), flag("f2000"), yes(), not(no()), not(flag("x")), no()} {
		if impl.Holds(cs, flags) {
			t.Errorf("%s holds with MaxMany flags and one more", impl.ShowCond(cs))
		}
	}
	same := slices.Repeat([]string{"a"}, impl.MaxMany)
	if !impl.Holds(flag("a"), same) || impl.Holds(flag("a"), append(same, "a")) {
		t.Error("with one flag many times")
	}
}

func TestPlain(t *testing.T) {
	for _, row := range [][2]string{
		{"a", "a"}, {"true", "true"}, {"false", "false"}, {"!a", "!a"}, {"!!a", "a"}, {"!!!a", "!a"}, {"!!!!a", "a"}, {"!true", "false"}, {"!false", "true"}, {"!!true", "true"}, {"!!!true", "false"},
		{"a&b", "a&b"}, {"a|b", "a|b"}, {"!(a&b)", "!a|!b"}, {"!(a|b)", "!a&!b"}, {"!(!a&!b)", "a|b"}, {"!(a|!b|c)", "!a&b&!c"}, {"!!(a&b)", "a&b"}, {"!(a&true)", "!a|false"}, {"!(a|false)", "!a&true"}, {"a&true", "a&true"},
		{"(a&b)&c", "a&b&c"}, {"a&(b&c)", "a&b&c"}, {"(a|b)|(c|d)", "a|b|c|d"}, {"a&(b&(c&(d&e)))", "a&b&c&d&e"}, {"a|(b&c)", "a|(b&c)"}, {"(a|b)&(c|d)", "(a|b)&(c|d)"}, {"a&(b|(c&d))", "a&(b|(c&d))"},
		{"a&!(b|c)", "a&!b&!c"}, {"a|!(b&c)", "a|!b|!c"}, {"!(b&c)|a|!(d&!e)", "!b|!c|a|!d|e"}, {"a&!(b|(c&d))", "a&!b&(!c|!d)"}, {"a&!(b|!(c&d))", "a&!b&c&d"}, {"!(a&!(b&!(c&d)))", "!a|(b&(!c|!d))"},
		{"!(a|(b|c))", "!a&!b&!c"}, {"!(a&(b|c))", "!a|(!b&!c)"}, {"!(a&!(b|c))", "!a|b|c"}, {"a&!!(b&c)", "a&b&c"}, {"a&!!!(b|c)", "a&!b&!c"}, {"a|!!(b&c)", "a|(b&c)"}, {"a&(b|!(c&d))", "a&(b|!c|!d)"},
		{"a&a", "a&a"}, {"a|(a|a)", "a|a|a"}, {"a&!a", "a&!a"}, {"!(true&false)", "false|true"}, {"!(!true|!false)", "true&false"}, {"(a&b)|(c&d)", "(a&b)|(c&d)"}, {"!((a&b)|(c&d))", "(!a|!b)&(!c|!d)"},
	} {
		got := impl.Plain(readCond(t, row[0]))
		if !sameCond(got, readCond(t, row[1])) || impl.ShowCond(got) != row[1] {
			t.Errorf("%s is made plain as %s, not as %s", row[0], impl.ShowCond(got), row[1])
		}
	}
	for times := range 61 {
		want := map[int][]impl.Cond{0: flag("a"), 1: not(flag("a"))}[times%2]
		if got := impl.Plain(nestedNots(times, flag("a"))); !sameCond(got, want) {
			t.Errorf("%d nots: %v", times, got)
		}
		inner := map[int][]impl.Cond{0: all(flag("a"), flag("b")), 1: either(not(flag("a")), not(flag("b")))}[times%2]
		if got := impl.Plain(nestedNots(min(times, 59), all(flag("a"), flag("b")))); times < 60 && !sameCond(got, inner) {
			t.Errorf("%d nots: %v", times, got)
		}
	}
	if got := impl.Plain(nestedRows(impl.CondAll, 60, flag("a"))); len(got) != 62 || impl.ShowCond(got) != strings.Repeat("b&", 60)+"a" {
		t.Error(got)
	}
}

// Turned round, each flag of a row has a not of its own, so that there may be more nodes than there were.
func TestPlainOfMaxCond(t *testing.T) {
	if got := impl.Plain(all(manyFlags(299)...)); !sameCond(got, all(manyFlags(299)...)) {
		t.Error("MaxCond nodes that are plain:", len(got))
	}
	turned := [][]impl.Cond{}
	for range 149 {
		turned = append(turned, not(flag("a")))
	}
	if got := impl.Plain(not(all(manyFlags(149)...))); !sameCond(got, either(turned...)) {
		t.Error("151 nodes that become 299:", len(got))
	}
	if got := impl.Plain(not(all(append(manyFlags(149), yes())...))); !sameCond(got, either(append(turned, no())...)) {
		t.Error("152 nodes that become 300:", len(got))
	}
	if got := impl.Plain(not(all(manyFlags(150)...))); len(got) != 0 {
		t.Error("152 nodes that would become 301:", len(got))
	}
	if got := impl.Plain(not(either(manyFlags(298)...))); len(got) != 0 {
		t.Error("300 nodes that would become 597:", len(got))
	}
}

func TestFlags(t *testing.T) {
	for _, row := range [][2]string{
		{"a", "a"}, {"true", ""}, {"false|true", ""}, {"!a", "a"}, {"b&a", "a b"}, {"a&a", "a"}, {"a|!a|(a&a)", "a"}, {"c&(b|a)&!(b|c)", "a b c"}, {"b|B|a|A|1|-|_|+", "+ - 1 A B _ a b"}, {"aa|a|ab", "a aa ab"}, {"a&true&b", "a b"},
	} {
		if got := impl.Flags(readCond(t, row[0])); !slices.Equal(got, strings.Fields(row[1])) {
			t.Errorf("in %s are %q", row[0], got)
		}
	}
	if got := impl.Flags(all(manyFlags(299)...)); !slices.Equal(got, []string{"a"}) {
		t.Error(got)
	}
}

func TestCondArgumentsStay(t *testing.T) {
	for _, s := range []string{"a", "!(a&b|c)", "a&(b&(c|!(d|e)))&(a&b)", "!!true", "c|b|a|b"} {
		whole := readCond(t, s)
		for _, list := range [][]impl.Cond{whole, whole[:len(whole)-1], whole[1:]} {
			cs, stays := roomy(list, impl.Cond{Kind: impl.CondFlag, Name: "room"})
			flags, remain := roomy([]string{"c", "a", "c", ""}, "room")
			impl.CondOk(cs)
			impl.ShowCond(cs)
			impl.Holds(cs, flags)
			impl.Plain(cs)
			impl.Flags(cs)
			if !stays() || !remain() {
				t.Errorf("written into %s", s)
			}
		}
	}
}

func TestCondAnswersAreNewMemory(t *testing.T) {
	for _, s := range []string{"a", "a&b", "!a|b&(c&d)", "b&!(a|!c)"} {
		want := readCond(t, s)
		plain, names := slices.Clone(impl.Plain(want)), slices.Clone(impl.Flags(want))
		given := slices.Clone(want)
		answers := [][]impl.Cond{readCond(t, s), impl.Plain(given)}
		flags := impl.Flags(given)
		kept, keptPlain, keptFlags := readCond(t, s), impl.Plain(given), impl.Flags(given)
		for _, answer := range answers {
			clear(answer[:cap(answer)])
		}
		clear(flags[:cap(flags)])
		if !sameCond(given, want) || !sameCond(kept, want) || !sameCond(keptPlain, plain) || !slices.Equal(keptFlags, names) {
			t.Errorf("%s: answers share memory", s)
		}
		if !sameCond(readCond(t, s), want) || !sameCond(impl.Plain(given), plain) || !reflect.DeepEqual(impl.Flags(given), names) {
			t.Errorf("%s: a later answer is another one", s)
		}
	}
}
