package tests

import (
	"fmt"
	"math/big"
	"math/rand"
	"slices"
	"sort"
	"strconv"
	"strings"
	"testing"

	"loop.example/g00023/impl"
)

// A plainMachine evaluates as chapter 4 says it, without any thought of speed: on the lists of nodes themselves, with names in
// a chain, and with a code that every step asks for. It knows no derive.
type plainMachine struct {
	lib    []impl.File
	budget int64
	steps  int64
	code   int64
	thrown string
	files  map[string]*plainCell
}

// A plainCell is something delayed: an expression where its names mean something, or a call.
type plainCell struct {
	es    []impl.Expr
	names *plainNames
	call  func() any
	busy  bool
	done  bool
	worth any
}

type plainNames struct {
	name string
	cell *plainCell
	with *plainCell
	next *plainNames
}

type plainFun struct {
	es    []impl.Expr
	names *plainNames
}

type plainPrim struct {
	name string
	args []*plainCell
}

type plainNull struct{}

type plainList []*plainCell

type plainSet map[string]*plainCell

var plainArity = map[string]int{"length": 1, "head": 1, "tail": 1, "at": 2, "map": 2, "filter": 2, "fold": 3, "names": 1, "mapSet": 2, "toSet": 1,
	"without": 2, "join": 2, "size": 1, "part": 3, "text": 1, "number": 1, "kind": 1, "throw": 1, "import": 1, "seq": 2, "deep": 2, "sort": 1}

func plainParts(es []impl.Expr) [][]impl.Expr {
	parts := [][]impl.Expr{}
	for at := 1; at < len(es); at += 1 + int(es[at].Size) {
		parts = append(parts, es[at:at+1+int(es[at].Size)])
	}
	return parts
}

func (m *plainMachine) fail(code int64) any {
	if m.code == 0 {
		m.code = code
	}
	return nil
}

func (m *plainMachine) look(c *plainCell) any {
	switch {
	case m.code != 0:
		return nil
	case c.done:
		return c.worth
	case c.busy:
		return m.fail(impl.EvLoop)
	}
	c.busy = true
	var worth any
	if c.call != nil {
		worth = c.call()
	} else {
		worth = m.eval(c.es, c.names)
	}
	if m.code == 0 {
		c.worth, c.done = worth, true
	}
	return worth
}

func (m *plainMachine) name(name string, names *plainNames) any {
	for at := names; at != nil; at = at.next {
		if at.with == nil && at.name == name {
			return m.look(at.cell)
		}
	}
	switch name {
	case "true":
		return true
	case "false":
		return false
	case "null":
		return plainNull{}
	}
	if plainArity[name] > 0 {
		return &plainPrim{name: name}
	}
	for at := names; at != nil; at = at.next {
		if at.with == nil {
			continue
		}
		set, ok := m.look(at.with).(plainSet)
		if !ok {
			return m.fail(impl.EvType)
		}
		if set[name] != nil {
			return m.look(set[name])
		}
	}
	return m.fail(impl.EvName)
}

// bound gives the cells of binds, and the names that are known where they stand.
func (m *plainMachine) bound(binds [][]impl.Expr, names *plainNames, among bool) (plainSet, *plainNames) {
	set := plainSet{}
	inside := names
	for _, bind := range binds {
		cell := &plainCell{names: names, es: exName(bind[0].Text)}
		set[bind[0].Text] = cell
		inside = &plainNames{name: bind[0].Text, cell: cell, next: inside}
	}
	for _, bind := range binds {
		if bind[0].Kind == impl.ExInherit {
			continue
		}
		set[bind[0].Text].es = bind[1:]
		if among {
			set[bind[0].Text].names = inside
		}
	}
	return set, inside
}

func (m *plainMachine) eval(es []impl.Expr, names *plainNames) any {
	if m.code != 0 {
		return nil
	}
	if m.steps == m.budget {
		return m.fail(impl.EvBudget)
	}
	m.steps++
	parts := plainParts(es)
	head := es[0]
	last := len(parts) - 1
	switch head.Kind {
	case impl.ExInt:
		return head.N
	case impl.ExStr:
		return head.Text
	case impl.ExName:
		return m.name(head.Text, names)
	case impl.ExList:
		list := plainList{}
		for _, part := range parts {
			list = append(list, &plainCell{es: part, names: names})
		}
		return list
	case impl.ExSet:
		set, _ := m.bound(parts, names, head.N == 1)
		return set
	case impl.ExLet:
		_, inside := m.bound(parts[:last], names, true)
		return m.eval(parts[last], inside)
	case impl.ExWith:
		return m.eval(parts[1], &plainNames{with: &plainCell{es: parts[0], names: names}, next: names})
	case impl.ExAssert:
		claim, ok := m.eval(parts[0], names).(bool)
		if !ok {
			return m.fail(impl.EvType)
		}
		if !claim {
			return m.fail(impl.EvAssert)
		}
		return m.eval(parts[1], names)
	case impl.ExIf:
		claim, ok := m.eval(parts[0], names).(bool)
		if !ok {
			return m.fail(impl.EvType)
		}
		if claim {
			return m.eval(parts[1], names)
		}
		return m.eval(parts[2], names)
	case impl.ExFun, impl.ExTake:
		return &plainFun{es, names}
	case impl.ExCall:
		return m.apply(m.eval(parts[0], names), &plainCell{es: parts[1], names: names})
	case impl.ExGet:
		set, ok := m.eval(parts[0], names).(plainSet)
		if ok && set[head.Text] != nil {
			return m.look(set[head.Text])
		}
		if m.code == 0 && last == 1 {
			return m.eval(parts[1], names)
		}
		if ok {
			return m.fail(impl.EvAttr)
		}
		return m.fail(impl.EvType)
	case impl.ExHas:
		set, ok := m.eval(parts[0], names).(plainSet)
		return ok && set[head.Text] != nil
	case impl.ExNeg:
		n, ok := m.eval(parts[0], names).(int64)
		if !ok {
			return m.fail(impl.EvType)
		}
		return -n
	case impl.ExNot:
		b, ok := m.eval(parts[0], names).(bool)
		if !ok {
			return m.fail(impl.EvType)
		}
		return !b
	}
	return m.both(head.Text, parts[0], parts[1], names)
}

func (m *plainMachine) apply(f any, arg *plainCell) any {
	if m.code != 0 {
		return nil
	}
	switch f := f.(type) {
	case *plainFun:
		parts := plainParts(f.es)
		last := len(parts) - 1
		if f.es[0].Kind == impl.ExFun {
			return m.eval(parts[0], &plainNames{name: f.es[0].Text, cell: arg, next: f.names})
		}
		given, ok := m.look(arg).(plainSet)
		if !ok {
			return m.fail(impl.EvType)
		}
		inside := f.names
		cells := []*plainCell{}
		known := 0
		for _, param := range parts[:last] {
			cell := given[param[0].Text]
			if cell != nil {
				known++
			} else if param[0].Size == 0 {
				return m.fail(impl.EvAttr)
			} else {
				cell = &plainCell{es: param[1:]}
				cells = append(cells, cell)
			}
			inside = &plainNames{name: param[0].Text, cell: cell, next: inside}
		}
		for _, cell := range cells {
			cell.names = inside
		}
		if f.es[0].N == 0 && known < len(given) {
			return m.fail(impl.EvArg)
		}
		return m.eval(parts[last], inside)
	case *plainPrim:
		args := append(slices.Clone(f.args), arg)
		if len(args) < plainArity[f.name] {
			return &plainPrim{f.name, args}
		}
		return m.prim(f.name, args)
	}
	return m.fail(impl.EvType)
}

func (m *plainMachine) both(sign string, left, right []impl.Expr, names *plainNames) any {
	a := m.eval(left, names)
	if sign == "&&" || sign == "||" || sign == "->" {
		first, ok := a.(bool)
		if !ok {
			return m.fail(impl.EvType)
		}
		if first == (sign == "||") {
			return sign != "&&"
		}
		second, ok := m.eval(right, names).(bool)
		if !ok {
			return m.fail(impl.EvType)
		}
		return second
	}
	b := m.eval(right, names)
	if m.code != 0 {
		return nil
	}
	switch sign {
	case "==":
		return m.same(a, b, 0)
	case "!=":
		return !m.same(a, b, 0)
	case "++":
		x, okx := a.(plainList)
		y, oky := b.(plainList)
		if !okx || !oky {
			return m.fail(impl.EvType)
		}
		return m.few(append(slices.Clone(x), y...))
	case "//":
		x, okx := a.(plainSet)
		y, oky := b.(plainSet)
		if !okx || !oky {
			return m.fail(impl.EvType)
		}
		set := plainSet{}
		for name, cell := range x {
			set[name] = cell
		}
		for name, cell := range y {
			set[name] = cell
		}
		return set
	}
	if x, ok := a.(string); ok {
		if y, ok := b.(string); ok && strings.Contains("<=>=+", sign) {
			if sign == "+" {
				return m.short(x + y)
			}
			return compared(sign, strings.Compare(x, y))
		}
	}
	x, okx := a.(int64)
	y, oky := b.(int64)
	if !okx || !oky {
		return m.fail(impl.EvType)
	}
	return m.reckon(sign, big.NewInt(x), big.NewInt(y))
}

func compared(sign string, order int) bool {
	return order < 0 && sign[0] == '<' || order > 0 && sign[0] == '>' || order == 0 && len(sign) == 2
}

func (m *plainMachine) reckon(sign string, x, y *big.Int) any {
	z := new(big.Int)
	switch sign {
	case "+":
		z.Add(x, y)
	case "-":
		z.Sub(x, y)
	case "*":
		z.Mul(x, y)
	case "/":
		if y.Sign() == 0 {
			return m.fail(impl.EvZero)
		}
		if y.Sign() < 0 {
			x, y = new(big.Int).Neg(x), new(big.Int).Neg(y)
		}
		z.Div(x, y)
	default:
		return compared(sign, x.Cmp(y))
	}
	if z.CmpAbs(big.NewInt(9007199254740992)) > 0 {
		return m.fail(impl.EvRange)
	}
	return z.Int64()
}

func (m *plainMachine) short(s string) any {
	if len(s) > 4000 {
		return m.fail(impl.EvRange)
	}
	return s
}

func (m *plainMachine) few(l plainList) any {
	if len(l) > 2000 {
		return m.fail(impl.EvRange)
	}
	return l
}

func sortedNames(s plainSet) []string {
	names := []string{}
	for name := range s {
		names = append(names, name)
	}
	sort.Strings(names)
	return names
}

// cells are the parts of a list or of a set, in order.
func cells(v any) []*plainCell {
	switch v := v.(type) {
	case plainList:
		return v
	case plainSet:
		all := []*plainCell{}
		for _, name := range sortedNames(v) {
			all = append(all, v[name])
		}
		return all
	}
	return nil
}

func (m *plainMachine) same(a, b any, depth int) bool {
	if m.code != 0 {
		return false
	}
	if depth > 60 {
		m.fail(impl.EvRange)
		return false
	}
	x, y := cells(a), cells(b)
	switch a := a.(type) {
	case plainList:
		if _, ok := b.(plainList); !ok || len(x) != len(y) {
			return false
		}
	case plainSet:
		if b, ok := b.(plainSet); !ok || !slices.Equal(sortedNames(a), sortedNames(b)) {
			return false
		}
	case *plainFun, *plainPrim:
		return false
	default:
		switch b.(type) {
		case plainList, plainSet:
			return false
		}
		return a == b
	}
	for i := range x {
		left := m.look(x[i])
		right := m.look(y[i])
		if !m.same(left, right, depth+1) {
			return false
		}
	}
	return true
}

func (m *plainMachine) whole(v any, depth int) {
	if m.code == 0 && depth > 60 {
		m.fail(impl.EvRange)
	}
	for _, cell := range cells(v) {
		if m.code != 0 {
			return
		}
		m.whole(m.look(cell), depth+1)
	}
}

func plainKind(v any) string {
	switch v.(type) {
	case int64:
		return "number"
	case bool:
		return "bool"
	case string:
		return "text"
	case plainList:
		return "list"
	case plainSet:
		return "set"
	case plainNull:
		return "null"
	}
	return "function"
}

func plainShow(v any) string {
	pieces := []string{}
	switch v := v.(type) {
	case string:
		return impl.ShowText(v)
	case plainNull:
		return "null"
	case *plainFun, *plainPrim:
		return "<function>"
	case plainList:
		for _, cell := range v {
			pieces = append(pieces, plainShow(cell.worth))
		}
		return "[" + strings.Join(pieces, " ") + "]"
	case plainSet:
		for _, name := range sortedNames(v) {
			pieces = append(pieces, name+" = "+plainShow(v[name].worth)+"; ")
		}
		return "{" + strings.Join(pieces, "") + "}"
	}
	return fmt.Sprint(v)
}

// want looks at an argument that has to be of a kind.
func want[T any](m *plainMachine, c *plainCell) (T, bool) {
	v, ok := m.look(c).(T)
	if !ok {
		m.fail(impl.EvType)
	}
	return v, m.code == 0
}

func (m *plainMachine) wantFun(c *plainCell) (any, bool) {
	v := m.look(c)
	if plainKind(v) != "function" {
		m.fail(impl.EvType)
	}
	return v, m.code == 0
}

func (m *plainMachine) prim(name string, args []*plainCell) any {
	switch name {
	case "size", "part", "number", "throw", "import", "join":
		if s, ok := want[string](m, args[0]); ok {
			return m.primOfText(name, s, args[1:])
		}
		return nil
	case "text", "kind", "seq", "deep":
		v := m.look(args[0])
		if m.code == 0 {
			return m.primOfAny(name, v, args[1:])
		}
		return nil
	case "map", "filter", "fold", "mapSet":
		if f, ok := m.wantFun(args[0]); ok {
			return m.primOfFunction(name, f, args[1:])
		}
		return nil
	case "names", "without":
		if s, ok := want[plainSet](m, args[0]); ok {
			return m.primOfSet(name, s, args[1:])
		}
		return nil
	}
	if l, ok := want[plainList](m, args[0]); ok {
		return m.primOfList(name, l, args[1:])
	}
	return nil
}

func (m *plainMachine) primOfText(name, s string, args []*plainCell) any {
	switch name {
	case "size":
		return int64(len(s))
	case "number":
		if digits := strings.TrimPrefix(s, "-"); digits == "" || strings.Trim(digits, "0123456789") != "" {
			return m.fail(impl.EvArg)
		}
		z, _ := new(big.Int).SetString(s, 10)
		return m.reckon("+", z, new(big.Int))
	case "throw":
		m.thrown = s
		return m.fail(impl.EvThrow)
	case "import":
		for _, file := range m.lib {
			if file.Name != s {
				continue
			}
			es, place := impl.Parse(file.Text)
			if place >= 0 {
				return m.fail(impl.EvImport)
			}
			if m.files[s] == nil {
				m.files[s] = &plainCell{es: es}
			}
			return m.look(m.files[s])
		}
		return m.fail(impl.EvImport)
	case "join":
		list, _ := want[plainList](m, args[0])
		texts := []string{}
		for _, cell := range list {
			text, ok := want[string](m, cell)
			if !ok {
				return nil
			}
			texts = append(texts, text)
		}
		return m.short(strings.Join(texts, s))
	}
	from, _ := want[int64](m, args[0])
	many, ok := want[int64](m, args[1])
	if !ok {
		return nil
	}
	if from < 0 || from > int64(len(s)) || many < 0 {
		return m.fail(impl.EvArg)
	}
	s = s[from:]
	if many < int64(len(s)) {
		s = s[:many]
	}
	return s
}

func (m *plainMachine) primOfAny(name string, v any, args []*plainCell) any {
	switch name {
	case "kind":
		return plainKind(v)
	case "text":
		switch plainKind(v) {
		case "text", "number", "bool":
			return fmt.Sprint(v)
		}
		return m.fail(impl.EvType)
	case "deep":
		m.whole(v, 0)
	}
	return m.look(args[0])
}

func (m *plainMachine) primOfFunction(name string, f any, args []*plainCell) any {
	if name == "mapSet" {
		set, ok := want[plainSet](m, args[0])
		if !ok {
			return nil
		}
		mapped := plainSet{}
		for name, cell := range set {
			mapped[name] = &plainCell{call: func() any { return m.apply(m.apply(f, &plainCell{done: true, worth: name}), cell) }}
		}
		return mapped
	}
	list, ok := want[plainList](m, args[len(args)-1])
	if !ok {
		return nil
	}
	changed := plainList{}
	sum := args[0]
	for _, cell := range list {
		switch name {
		case "map":
			changed = append(changed, &plainCell{call: func() any { return m.apply(f, cell) }})
		case "filter":
			keep, ok := m.apply(f, cell).(bool)
			if !ok {
				return m.fail(impl.EvType)
			}
			if keep {
				changed = append(changed, cell)
			}
		case "fold":
			sum = &plainCell{done: true, worth: m.apply(m.apply(f, sum), cell)}
		}
	}
	if name == "fold" {
		return m.look(sum)
	}
	return changed
}

func (m *plainMachine) primOfSet(name string, s plainSet, args []*plainCell) any {
	if name == "names" {
		list := plainList{}
		for _, name := range sortedNames(s) {
			list = append(list, &plainCell{done: true, worth: name})
		}
		return list
	}
	list, _ := want[plainList](m, args[0])
	rest := plainSet{}
	for name, cell := range s {
		rest[name] = cell
	}
	for _, cell := range list {
		name, ok := want[string](m, cell)
		if !ok {
			return nil
		}
		delete(rest, name)
	}
	return rest
}

func (m *plainMachine) primOfList(name string, l plainList, args []*plainCell) any {
	switch name {
	case "length":
		return int64(len(l))
	case "head", "tail":
		if len(l) == 0 {
			return m.fail(impl.EvArg)
		}
		if name == "head" {
			return m.look(l[0])
		}
		return l[1:]
	case "at":
		n, ok := want[int64](m, args[0])
		if ok && (n < 0 || n >= int64(len(l))) {
			return m.fail(impl.EvArg)
		}
		if !ok {
			return nil
		}
		return m.look(l[n])
	case "sort":
		for _, cell := range l {
			kind := plainKind(m.look(cell))
			if kind != "number" && kind != "text" || kind != plainKind(l[0].worth) {
				return m.fail(impl.EvType)
			}
		}
		byWorth := slices.Clone(l)
		sort.SliceStable(byWorth, func(i, j int) bool {
			if n, ok := byWorth[i].worth.(int64); ok {
				return n < byWorth[j].worth.(int64)
			}
			return byWorth[i].worth.(string) < byWorth[j].worth.(string)
		})
		return byWorth
	}
	set := plainSet{}
	for _, cell := range l {
		pair, ok := want[plainSet](m, cell)
		if !ok {
			return nil
		}
		if pair["name"] == nil || pair["value"] == nil {
			return m.fail(impl.EvAttr)
		}
		name, ok := want[string](m, pair["name"])
		if !ok {
			return nil
		}
		if !plainWords.MatchString(name) || impl.Keyword(name) {
			return m.fail(impl.EvArg)
		}
		set[name] = pair["value"]
	}
	return set
}

func plainEval(src string, lib []impl.File, budget int64) impl.Answer {
	es, place := impl.Parse(src)
	if place >= 0 {
		return impl.Answer{Code: impl.EvParse}
	}
	m := &plainMachine{lib: lib, budget: budget, files: map[string]*plainCell{}}
	v := m.eval(es, nil)
	m.whole(v, 0)
	text := ""
	if m.code == 0 {
		text = plainShow(v)
		if len(text) > 20000 {
			text = ""
			m.fail(impl.EvRange)
		}
	}
	return impl.Answer{Code: m.code, Text: text, Steps: m.steps, Thrown: m.thrown}
}

// A maker makes recipes that mostly have a value; its known names are of a kind each: n a number, t a text, b a truth value,
// l a list of numbers, s a set of numbers, f a function of a number.
type maker struct {
	r     *rand.Rand
	known []string
}

func (g *maker) one(of ...func() string) string { return of[g.r.Intn(len(of))]() }

func (g *maker) word(kind byte) string { return string(kind) + strconv.Itoa(g.r.Intn(3)) }

// pick is a known name of the kind, or else what is given; now and then one that is not known.
func (g *maker) pick(kind byte, or string) string {
	fit := []string{}
	for _, name := range g.known {
		if name[0] == kind {
			fit = append(fit, name)
		}
	}
	switch {
	case g.r.Intn(60) == 0:
		return g.word(kind)
	case len(fit) == 0:
		return or
	}
	return fit[g.r.Intn(len(fit))]
}

// within makes something where more names are known.
func (g *maker) within(names []string, make func() string) string {
	before := g.known
	g.known = append(slices.Clone(g.known), names...)
	made := make()
	g.known = before
	return made
}

func (g *maker) of(kind byte, depth int) string {
	if g.r.Intn(40) == 0 {
		kind = "ntblsf"[g.r.Intn(6)]
	}
	if g.r.Intn(150) == 0 {
		return []string{"(throw \"!\")", "null", "nope", "(1 / 0)", "(assert false; 1)", "(import \"circle\")"}[g.r.Intn(6)]
	}
	if depth <= 0 {
		plain := map[byte][]string{'n': {"0", "1", "2", "7"}, 't': {"\"\"", "\"a\"", "\"xy\"", "\"12\""}, 'b': {"true", "false"}, 'l': {"[]", "[1]", "[3 1 2]"},
			's': {"{}", "{n0 = 1; }", "{n1 = 2; n0 = 3; }"}, 'f': {"(x: x)", "(n0: n0 + 1)", "(at [5 6 7])"}}[kind]
		return g.pick(kind, plain[g.r.Intn(len(plain))])
	}
	return "(" + g.one(
		func() string { return g.special(kind, depth-1) },
		func() string { return g.special(kind, depth-1) },
		func() string { return g.special(kind, depth-1) },
		func() string { return g.common(kind, depth-1) },
	) + ")"
}

// common is what a value of any kind may be of.
func (g *maker) common(kind byte, d int) string {
	other := "ntblsf"[g.r.Intn(6)]
	name, second := g.word(other), g.word(kind)
	return g.one(
		func() string { return "if " + g.of('b', d) + " then " + g.of(kind, d) + " else " + g.of(kind, d) },
		func() string {
			return g.within([]string{name, second}, func() string {
				if name == second {
					return "let " + name + " = " + g.of(other, d) + "; in " + g.of(kind, d)
				}
				return "let " + name + " = " + g.of(other, d) + "; " + second + " = " + g.of(kind, d) + "; in " + g.of(kind, d)
			})
		},
		func() string {
			return "with {" + name + " = " + g.of(other, d) + "; }; " + g.within([]string{name}, func() string { return g.of(kind, d) })
		},
		func() string {
			return "(" + name + ": " + g.within([]string{name}, func() string { return g.of(kind, d) }) + ") " + g.of(other, d)
		},
		func() string {
			body := g.within([]string{name, "n9"}, func() string {
				return "({" + name + ", n9 ? " + g.of('n', d) + []string{"", ", ..."}[g.r.Intn(2)] + "}: " + g.of(kind, d) + ")"
			})
			return body + " {" + name + " = " + g.of(other, d) + "; " + []string{"", "n9 = 4; ", "n8 = 4; "}[g.r.Intn(3)] + "}"
		},
		func() string { return "seq " + g.of(other, d) + " " + g.of(kind, d) },
		func() string { return "deep " + g.of(other, d) + " " + g.of(kind, d) },
		func() string { return "assert " + g.of('b', d) + "; " + g.of(kind, d) },
		func() string { return "{" + name + " = " + g.of(kind, d) + "; }." + name },
		func() string { return g.of('s', d) + "." + g.word('n') + " or " + g.of(kind, d) },
		func() string { return "head [" + g.of(kind, d) + " " + g.of(other, d) + "]" },
		func() string {
			return "rec {" + second + " = " + g.within([]string{second, "f9"}, func() string { return g.of(kind, d) }) + "; f9 = x: x + 1; }." + second
		},
		func() string { return "let inherit " + g.pick(kind, "true") + "; in " + g.of(kind, d) },
	)
}

func (g *maker) special(kind byte, d int) string {
	n, t, b, l, s, f := func() string { return g.of('n', d) }, func() string { return g.of('t', d) }, func() string { return g.of('b', d) },
		func() string { return g.of('l', d) }, func() string { return g.of('s', d) }, func() string { return g.of('f', d) }
	switch kind {
	case 'n':
		return g.one(
			func() string { return n() + []string{" + ", " - ", " * ", " / "}[g.r.Intn(4)] + n() },
			func() string { return "-" + n() },
			func() string { return f() + " " + n() },
			func() string { return []string{"length ", "head "}[g.r.Intn(2)] + l() },
			func() string { return "at " + l() + " " + n() },
			func() string { return "size " + t() },
			func() string { return "number (text " + n() + ")" },
			func() string { return "fold (n4: n5: " + g.within([]string{"n4", "n5"}, n) + ") " + n() + " " + l() },
			func() string { return s() + "." + g.word('n') },
			func() string { return "import \"seven\"" },
			func() string { return "9007199254740992 - " + n() },
		)
	case 't':
		return g.one(
			func() string { return t() + " + " + t() },
			func() string { return "text " + g.of("ntb"[g.r.Intn(3)], d) },
			func() string { return "kind " + g.of("ntblsf"[g.r.Intn(6)], d) },
			func() string { return "join " + t() + " [" + t() + " " + t() + "]" },
			func() string { return "join " + t() + " (names " + s() + ")" },
			func() string { return "part " + t() + " " + n() + " " + n() },
			func() string { return "join \"-\" (map text " + l() + ")" },
		)
	case 'b':
		return g.one(
			func() string { return b() + []string{" && ", " || ", " -> "}[g.r.Intn(3)] + b() },
			func() string { return "!" + b() },
			func() string { return n() + []string{" < ", " <= ", " > ", " >= "}[g.r.Intn(4)] + n() },
			func() string { return t() + []string{" < ", " <= ", " > ", " >= "}[g.r.Intn(4)] + t() },
			func() string {
				other := "ntblsf"[g.r.Intn(6)]
				return g.of(other, d) + []string{" == ", " != "}[g.r.Intn(2)] + g.of(other, d)
			},
			func() string { return s() + " ? " + g.word('n') },
			func() string { return "[" + l() + " " + s() + "] == [" + l() + " " + s() + "]" },
		)
	case 'l':
		return g.one(
			func() string { return "[" + n() + " " + n() + "]" },
			func() string { return l() + " ++ " + l() },
			func() string { return "map " + f() + " " + l() },
			func() string { return "filter (n4: " + g.within([]string{"n4"}, b) + ") " + l() },
			func() string { return "tail " + l() },
			func() string { return "sort " + l() },
			func() string { return "map (n4: " + g.within([]string{"n4"}, n) + ") " + l() },
			func() string { return "fold (l4: n4: l4 ++ [" + g.within([]string{"l4", "n4"}, n) + "]) [] " + l() },
		)
	case 's':
		x, y := g.word('n'), g.word('n')
		return g.one(
			func() string { return "{" + x + " = " + n() + "; }" },
			func() string { return "{inherit " + g.pick('n', "n0") + "; }" },
			func() string {
				if x == y {
					return "rec {" + x + " = 5; }"
				}
				return g.within([]string{x, y}, func() string { return "rec {" + x + " = " + n() + "; " + y + " = " + n() + "; }" })
			},
			func() string { return s() + " // " + s() },
			func() string { return "without " + s() + " [" + t() + " \"n0\"]" },
			func() string {
				return "mapSet (t4: n4: " + g.within([]string{"t4", "n4"}, n) + ") " + s()
			},
			func() string {
				return "toSet [{name = \"" + x + "\"; value = " + n() + "; } {name = \"" + y + "\"; value = " + n() + "; }]"
			},
			func() string { return "toSet (map (t4: {name = t4; value = 1; }) [" + t() + "])" },
		)
	}
	return g.one(
		func() string { return "n4: " + g.within([]string{"n4"}, n) },
		func() string { return "n4: " + g.within([]string{"n4"}, n) },
		func() string { return "at " + l() },
		func() string { return "import \"inc\"" },
		func() string { return "(f4: n4: f4 (f4 n4)) " + f() },
		func() string { return "part " + t() },
	)
}

func TestEvalAgainstAPlainMachine(t *testing.T) {
	codes := map[int64]int{}
	g := &maker{r: rand.New(rand.NewSource(4))}
	for range 30000 {
		src := g.of("ntblsf"[g.r.Intn(6)], 1+g.r.Intn(5))
		budget := int64(2000)
		want := plainEval(src, shelf, budget)
		if g.r.Intn(3) == 0 {
			budget = int64(g.r.Intn(int(want.Steps) + 2))
			want = plainEval(src, shelf, budget)
		}
		codes[want.Code]++
		if got := impl.Eval(src, shelf, budget); !sameAnswer(got, want) {
			t.Fatalf("%s\n with a budget of %d is %s\n not %s", src, budget, shown(got), shown(want))
		}
	}
	for _, code := range []int64{impl.EvOk, impl.EvBudget, impl.EvLoop, impl.EvType, impl.EvName, impl.EvAssert, impl.EvAttr, impl.EvArg, impl.EvRange, impl.EvZero, impl.EvThrow} {
		if codes[code] < 20 {
			t.Error("code", code, "comes too seldom:", codes)
		}
	}
	t.Log(codes)
}

// The rows of the other tests too come out of the plain machine as they should, so that neither goes wrong alone.
func TestThePlainMachine(t *testing.T) {
	for _, e := range closed {
		if got, want := plainEval(e, shelf, 1000), impl.Eval(e, shelf, 1000); !sameAnswer(got, want) {
			t.Errorf("%s\n is plainly %s\n not %s", e, shown(got), shown(want))
		}
	}
}
