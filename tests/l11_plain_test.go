package tests

import (
	"regexp"
	"slices"
	"sort"
	"strings"

	"loop.example/g00023/impl"
)

const (
	plainPathPattern    = plainNamePattern + `(?:/` + plainNamePattern + `){0,7}`
	plainAddressPattern = plainWordPattern + `-` + plainNamePattern
	plainPlacePattern   = `(?:` + plainPathPattern + `|@` + plainAddressPattern + `(?:/` + plainPathPattern + `)?)`
	plainTabsPattern    = `"(?:[^\x00-\x1f"\\]|\\[nt"\\])*"`
)

// plainForms are the document's table; each group is a word behind the first one, but for join, whose last one has all its places.
var plainForms = map[string]*regexp.Regexp{}

func init() {
	words := strings.NewReplacer("PLACES", `(`+plainPlacePattern+`(?: +`+plainPlacePattern+`)*)`, "PLACE", `(`+plainPlacePattern+`)`,
		"PATH", `(`+plainPathPattern+`)`, "NAME", `(`+plainNamePattern+`)`, "TEXT", `(`+plainTabsPattern+`)`, " ", " +")
	for _, form := range []string{
		"mkdir PATH", "write PATH TEXT", "env PATH NAME", "copy PLACE PATH", "join PATH PLACES", "swap PATH NAME", "exec PATH", "link PATH TEXT",
		"cut PATH", "move PATH PATH", "need PLACE", "same PLACE PLACE", "when NAME", "log TEXT", "fail TEXT", "into NAME PATH",
	} {
		plainForms[strings.Fields(form)[0]] = regexp.MustCompile(`\A *` + words.Replace(form) + ` *\z`)
	}
}

var plainMeant = strings.NewReplacer(`\n`, "\n", `\t`, "\t", `\"`, `"`, `\\`, `\`)

// plainLine gives nil when the line is none of the forms.
func plainLine(line string) []string {
	for name, form := range plainForms {
		if groups := form.FindStringSubmatch(line); groups != nil {
			words := append([]string{name}, groups[1:]...)
			if name == "join" {
				words = append(words[:2], strings.Fields(words[2])...)
			}
			if last := len(words) - 1; strings.HasPrefix(words[last], `"`) {
				words[last] = plainMeant.Replace(words[last][1 : len(words[last])-1])
			}
			return words
		}
	}
	return nil
}

func plainLines(program string) []string {
	if program == "" {
		return nil
	}
	return strings.Split(strings.TrimSuffix(program, "\n"), "\n")
}

type plainRoom struct {
	d        impl.Drv
	declared []string
	given    []impl.Given
	tree     []impl.Entry
	log      []string
	origins  map[string]string
	over     bool
}

// plainLook gives the thing under the name x, and what is below it as x/..
func (r *plainRoom) look(place string) ([]impl.Entry, int64) {
	t := r.tree
	whole := "x/" + place
	if strings.HasPrefix(place, "@") {
		address, path, _ := strings.Cut(place[1:], "/")
		at := slices.IndexFunc(r.given, func(g impl.Given) bool { return g.Path == address })
		if at < 0 || !slices.Contains(r.declared, address) {
			return nil, impl.BuildHidden
		}
		t, whole = r.given[at].Tree, strings.TrimSuffix("x/"+path, "/")
	}
	found := []impl.Entry{}
	for _, e := range append([]impl.Entry{{Path: "", Kind: 1}}, t...) {
		path := strings.TrimSuffix("x/"+e.Path, "/")
		if path == whole || strings.HasPrefix(path, whole+"/") {
			e.Path = "x" + path[len(whole):]
			found = append(found, e)
		}
	}
	if len(found) == 0 {
		return nil, impl.BuildNone
	}
	return found, impl.BuildOk
}

func (r *plainRoom) value(key string) (string, int64) {
	for _, pair := range r.d.Env {
		if pair.Key == key {
			return pair.Value, impl.BuildOk
		}
	}
	return "", impl.BuildName
}

func (r *plainRoom) put(e impl.Entry) int64 {
	put, ok := plainPut(r.tree, e)
	r.tree = put
	if !ok {
		return impl.BuildTree
	}
	return impl.BuildOk
}

func (r *plainRoom) file(place string) (impl.Entry, int64) {
	found, code := r.look(place)
	if code != impl.BuildOk {
		return impl.Entry{}, code
	}
	if found[0].Kind != 2 {
		return impl.Entry{}, impl.BuildKind
	}
	return found[0], impl.BuildOk
}

// do is the document's table, line by line.
func (r *plainRoom) do(words []string) int64 {
	first, second := words[1], words[len(words)-1]
	switch words[0] {
	case "mkdir":
		names := strings.Split(first, "/")
		for i := range names {
			path := strings.Join(names[:i+1], "/")
			if at := plainFind(r.tree, path); at >= 0 {
				if r.tree[at].Kind != 1 {
					return impl.BuildTree
				}
			} else if code := r.put(impl.Entry{Path: path, Kind: 1}); code != impl.BuildOk {
				return code
			}
		}
	case "write":
		return r.put(impl.Entry{Path: first, Kind: 2, Data: second})
	case "env":
		value, code := r.value(second)
		if code != impl.BuildOk {
			return code
		}
		return r.put(impl.Entry{Path: first, Kind: 2, Data: value})
	case "copy", "move":
		if words[0] == "move" && strings.HasPrefix(second+"/", first+"/") {
			return impl.BuildForm
		}
		found, code := r.look(first)
		if code != impl.BuildOk {
			return code
		}
		for _, e := range found {
			e.Path = second + e.Path[1:]
			if code := r.put(e); code != impl.BuildOk {
				return code
			}
		}
		if words[0] == "move" {
			r.tree, _ = plainCut(r.tree, first)
		}
	case "join":
		all := ""
		for _, place := range words[2:] {
			file, code := r.file(place)
			if code != impl.BuildOk {
				return code
			}
			all += file.Data
		}
		return r.put(impl.Entry{Path: first, Kind: 2, Data: all})
	case "swap", "exec":
		file, code := r.file(first)
		if code != impl.BuildOk {
			return code
		}
		file.Path = first
		if words[0] == "exec" {
			file.Exec = true
			return r.put(file)
		}
		value, code := r.value(second)
		if code != impl.BuildOk {
			return code
		}
		file.Data = strings.Join(strings.Split(file.Data, "@"+second+"@"), value)
		return r.put(file)
	case "link":
		return r.put(impl.Entry{Path: first, Kind: 3, Data: second})
	case "cut":
		left, ok := plainCut(r.tree, first)
		if !ok {
			return impl.BuildNone
		}
		r.tree = left
	case "need":
		_, code := r.look(first)
		return code
	case "same":
		one, code := r.look(first)
		if code != impl.BuildOk {
			return code
		}
		other, code := r.look(second)
		if code != impl.BuildOk {
			return code
		}
		if !slices.Equal(one, other) {
			return impl.BuildDiffer
		}
	case "when":
		value, _ := r.value(first)
		r.over = value == ""
	case "log", "fail":
		if len(r.log) < 200 {
			r.log = append(r.log, first)
		}
		if words[0] == "fail" {
			return impl.BuildFail
		}
	case "into":
		if !slices.Contains(r.d.Outputs, first) {
			return impl.BuildName
		}
		r.origins[first] = second
	}
	return impl.BuildOk
}

func (r *plainRoom) outs() ([]impl.Out, int64) {
	outs := []impl.Out{}
	for _, name := range r.d.Outputs {
		t := r.tree
		origin, isNamed := r.origins[name]
		if !isNamed && name != "out" && len(r.d.Outputs) > 1 {
			return nil, impl.BuildName
		}
		if isNamed {
			found, code := r.look(origin)
			if code != impl.BuildOk {
				return nil, code
			}
			t = plainBelow(found, "x")
			if found[0].Kind != 1 {
				names := strings.Split(origin, "/")
				found[0].Path = names[len(names)-1]
				t = found
			}
		}
		outs = append(outs, impl.Out{Name: name, Path: impl.OutPath(r.d, name), Tree: t})
	}
	if r.d.Fixed != "" && impl.TreeSum(outs[0].Tree) != r.d.Fixed {
		return nil, impl.BuildFixed
	}
	return outs, impl.BuildOk
}

// plainBuild is for arguments that can be.
func plainBuild(d impl.Drv, declared []string, given []impl.Given, steps int64) impl.Built {
	r := &plainRoom{d: d, declared: declared, given: given, origins: map[string]string{}}
	for i, line := range plainLines(d.Builder) {
		if int64(i) == steps {
			return impl.Built{Code: impl.BuildSteps, Line: int64(i + 1), Log: r.log}
		}
		if strings.Trim(line, " ") == "" {
			continue
		}
		words := plainLine(line)
		code := int64(impl.BuildForm)
		if words != nil {
			code = r.do(words)
		}
		if code != impl.BuildOk {
			return impl.Built{Code: code, Line: int64(i + 1), Log: r.log}
		}
		if r.over {
			break
		}
	}
	outs, code := r.outs()
	return impl.Built{Code: code, Log: r.log, Outs: outs}
}

func plainReads(program string) []string {
	found := map[string]bool{}
	for _, line := range plainLines(program) {
		words := plainLine(line)
		if words == nil || strings.Contains("write link log fail", words[0]) {
			continue
		}
		for _, word := range words[1:] {
			if strings.HasPrefix(word, "@") {
				address, _, _ := strings.Cut(word[1:], "/")
				found[address] = true
			}
		}
	}
	addresses := []string{}
	for address := range found {
		addresses = append(addresses, address)
	}
	sort.Strings(addresses)
	return addresses
}
