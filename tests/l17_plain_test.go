package tests

import (
	"regexp"
	"slices"
	"sort"
	"strings"

	"loop.example/g00023/impl"
)

// Options in plain words: whatever is asked is looked for in all modules again, one fault at a time.

const plainOptionPart = `[-A-Za-z0-9_+]{1,60}`

var (
	plainOptionName  = regexp.MustCompile(`\A` + plainOptionPart + `(?:\.` + plainOptionPart + `){0,7}\z`)
	plainChoiceWords = regexp.MustCompile(`\A` + plainNamePattern + `(?:\|` + plainNamePattern + `)+\z`)
	plainIntValue    = regexp.MustCompile(`\A(?:0|-?[1-9][0-9]{0,14})\z`)
	plainListValue   = regexp.MustCompile(`\A(?:` + plainNamePattern + `(?: ` + plainNamePattern + `)*)?\z`)
)

// plainChoice are those of a choice; none when it is no choice.
func plainChoice(kind string) []string {
	if !plainChoiceWords.MatchString(kind) {
		return nil
	}
	words := strings.Split(kind, "|")
	for i, word := range words {
		if slices.Contains(words[:i], word) {
			return nil
		}
	}
	return words
}

func plainTypeOk(kind string) bool {
	return slices.Contains([]string{"bool", "int", "text", "list"}, kind) || len(plainChoice(kind)) > 0
}

func plainValueOk(kind string, value string) bool {
	return kind == "bool" && (value == "true" || value == "false") ||
		kind == "int" && plainIntValue.MatchString(value) ||
		kind == "text" && len(value) <= 4000 ||
		kind == "list" && plainListValue.MatchString(value) ||
		slices.Contains(plainChoice(kind), value)
}

func plainRises(names []string) bool {
	for i := 1; i < len(names); i++ {
		if names[i-1] >= names[i] {
			return false
		}
	}
	return true
}

func plainOptionOk(o impl.Option) bool {
	for _, need := range o.Needs {
		if o.Type != "bool" || !plainOptionName.MatchString(need) {
			return false
		}
	}
	isDefault := o.Default == ""
	if o.Given {
		isDefault = plainValueOk(o.Type, o.Default)
	}
	return plainOptionName.MatchString(o.Name) && plainTypeOk(o.Type) && isDefault && len(o.Needs) <= 20 && plainRises(o.Needs)
}

func plainModuleOk(m impl.Module) bool {
	for _, name := range append([]string{m.Name}, m.Imports...) {
		if !plainNames60.MatchString(name) {
			return false
		}
	}
	for _, o := range m.Options {
		if !plainOptionOk(o) {
			return false
		}
	}
	for _, d := range m.Defs {
		if !plainOptionName.MatchString(d.Option) || d.Rank < 1 || d.Rank > 1000 || d.When != "" && !plainOptionName.MatchString(d.When) {
			return false
		}
	}
	return plainRises(m.Imports) && len(m.Imports) <= 20 && len(m.Options) <= 20 && len(m.Defs) <= 20
}

func plainModulesOk(ms []impl.Module) bool {
	names := []string{}
	for _, m := range ms {
		if !plainModuleOk(m) {
			return false
		}
		names = append(names, m.Name)
	}
	return len(ms) <= 100 && plainRises(names)
}

func plainModuleAt(ms []impl.Module, name string) int {
	return slices.IndexFunc(ms, func(m impl.Module) bool { return m.Name == name })
}

func plainImported(ms []impl.Module, start []string) []string {
	if !plainModulesOk(ms) || len(start) > 2000 {
		return nil
	}
	names := slices.Clone(start)
	for {
		more := slices.Clone(names)
		for _, name := range names {
			if at := plainModuleAt(ms, name); at >= 0 {
				more = append(more, ms[at].Imports...)
			}
		}
		sort.Strings(more)
		more = slices.Compact(more)
		if slices.Equal(more, names) {
			return slices.DeleteFunc(names, func(name string) bool { return plainModuleAt(ms, name) < 0 })
		}
		names = more
	}
}

type plainSystem struct {
	ms     []impl.Module
	known  map[string]impl.Setting
	faults map[string]bool
}

// options are all declarations, twice those that stand there twice.
func (s plainSystem) options() []impl.Option {
	all := []impl.Option{}
	for _, m := range s.ms {
		all = append(all, m.Options...)
	}
	return all
}

func (s plainSystem) defs() []impl.Def {
	all := []impl.Def{}
	for _, m := range s.ms {
		all = append(all, m.Defs...)
	}
	return all
}

// firstOf is the first declaration; false when there is none.
func (s plainSystem) firstOf(name string) (impl.Option, bool) {
	for _, o := range s.options() {
		if o.Name == name {
			return o, true
		}
	}
	return impl.Option{}, false
}

func (s plainSystem) tell(isFault bool, text string) {
	if isFault {
		s.faults[text] = true
	}
}

func (s plainSystem) names() []string {
	names := []string{}
	for _, o := range s.options() {
		names = append(names, o.Name)
	}
	sort.Strings(names)
	return slices.Compact(names)
}

func (s plainSystem) lookOver(start []string) {
	looked := slices.Clone(start)
	for _, m := range s.ms {
		looked = append(looked, m.Imports...)
	}
	for _, name := range looked {
		s.tell(plainModuleAt(s.ms, name) < 0, "missing "+name)
	}
	named := []string{}
	for i, o := range s.options() {
		for _, other := range s.options()[:i] {
			s.tell(other.Name == o.Name, "twice "+o.Name)
		}
	}
	for _, name := range s.names() {
		o, _ := s.firstOf(name)
		named = append(named, o.Needs...)
	}
	for _, d := range s.defs() {
		named = append(named, d.Option)
		o, isThere := s.firstOf(d.Option)
		s.tell(isThere && !plainValueOk(o.Type, d.Value), "value "+d.Option)
		if d.When != "" {
			named = append(named, d.When)
			when, isThere := s.firstOf(d.When)
			s.tell(isThere && when.Type != "bool", "when "+d.When)
		}
	}
	for _, name := range named {
		_, isThere := s.firstOf(name)
		s.tell(!isThere, "unknown "+name)
	}
}

// reckon is told which options are being reckoned already, the outermost first.
func (s plainSystem) reckon(name string, open []string) impl.Setting {
	if slices.Contains(open, name) {
		for _, each := range open {
			s.tell(true, "loop "+each)
		}
		return impl.Setting{Name: name, Value: "false"}
	}
	if known, isKnown := s.known[name]; isKnown {
		return known
	}
	open = append(slices.Clone(open), name)
	values := map[int64][]string{}
	for _, d := range s.defs() {
		if d.Option == name && (d.When == "" || s.reckon(d.When, open).Value == "true") {
			values[d.Rank] = append(values[d.Rank], d.Value)
		}
	}
	o, _ := s.firstOf(name)
	got := impl.Setting{Name: name}
	for rank := int64(1); rank <= 1000 && got.Rank == 0; rank++ {
		if len(values[rank]) > 0 {
			got.Rank = rank
		}
	}
	switch least := values[got.Rank]; {
	case got.Rank > 0 && o.Type == "list":
		got.Value = strings.Join(strings.Fields(strings.Join(least, " ")), " ")
	case got.Rank > 0:
		got.Value = least[0]
		s.tell(len(slices.Compact(least)) > 1, "conflict "+name)
	case o.Given:
		got.Value = o.Default
	default:
		s.tell(true, "unset "+name)
		got.Value = append(plainChoice(o.Type), map[string]string{"bool": "false", "int": "0"}[o.Type])[0]
	}
	s.known[name] = got
	return got
}

func (s plainSystem) askNeeds() {
	for _, name := range s.names() {
		o, _ := s.firstOf(name)
		for _, need := range o.Needs {
			s.tell(s.known[name].Value == "true" && s.known[need].Value != "true", "needs "+name+" "+need)
		}
	}
}

func (s plainSystem) told() []string {
	texts := []string{}
	for text := range s.faults {
		texts = append(texts, text)
	}
	sort.Strings(texts)
	return texts
}

func plainMerge(ms []impl.Module, start []string) impl.Config {
	if !plainModulesOk(ms) || len(start) > 2000 {
		return impl.Config{}
	}
	s := plainSystem{known: map[string]impl.Setting{}, faults: map[string]bool{}}
	for _, name := range plainImported(ms, start) {
		s.ms = append(s.ms, ms[plainModuleAt(ms, name)])
	}
	s.lookOver(start)
	settings := []impl.Setting{}
	if len(s.faults) == 0 {
		for _, name := range s.names() {
			settings = append(settings, s.reckon(name, nil))
		}
		s.askNeeds()
	}
	if len(s.faults) > 0 {
		return impl.Config{Faults: s.told()}
	}
	return impl.Config{Settings: settings}
}
