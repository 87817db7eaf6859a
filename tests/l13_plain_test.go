package tests

import (
	"slices"
	"sort"

	"loop.example/g00023/impl"
)

// Profiles and collection in plain words: every step looks at everything again.

func plainProfileOk(p impl.Profile) bool {
	hasNow := p.Now == 0
	for i, gen := range p.Gens {
		if gen.N < 1 || gen.N > 1<<53 || !plainAddress.MatchString(gen.Path) {
			return false
		}
		if i > 0 && p.Gens[i-1].N >= gen.N {
			return false
		}
		hasNow = hasNow || gen.N == p.Now
	}
	return plainNames60.MatchString(p.Name) && len(p.Gens) <= 50 && hasNow
}

func plainProfilesOk(ps []impl.Profile) bool {
	for i, p := range ps {
		if !plainProfileOk(p) || i > 0 && ps[i-1].Name >= p.Name {
			return false
		}
	}
	return len(ps) <= 20
}

// plainProfile is its number, or -1.
func plainProfile(ps []impl.Profile, name string) int {
	return slices.IndexFunc(ps, func(p impl.Profile) bool { return p.Name == name })
}

// plainNow is the number of the Gen that is set, or -1.
func plainNow(p impl.Profile) int {
	return slices.IndexFunc(p.Gens, func(gen impl.Gen) bool { return gen.N == p.Now })
}

func plainSwitch(ps []impl.Profile, name string, path string) ([]impl.Profile, bool) {
	if !plainProfilesOk(ps) {
		return nil, false
	}
	at := plainProfile(ps, name)
	if at < 0 {
		made := impl.Profile{Name: name, Now: 1, Gens: []impl.Gen{{N: 1, Path: path}}}
		more := append(slices.Clone(ps), made)
		sort.Slice(more, func(i, j int) bool { return more[i].Name < more[j].Name })
		if !plainProfilesOk(more) {
			return ps, false
		}
		return more, true
	}
	p := ps[at]
	if now := plainNow(p); now >= 0 && p.Gens[now].Path == path {
		return ps, true
	}
	n := int64(1)
	for _, gen := range p.Gens {
		n = max(n, gen.N+1)
	}
	p.Now, p.Gens = n, append(slices.Clone(p.Gens), impl.Gen{N: n, Path: path})
	if !plainProfileOk(p) {
		return ps, false
	}
	more := slices.Clone(ps)
	more[at] = p
	return more, true
}

func plainRollback(ps []impl.Profile, name string) ([]impl.Profile, bool) {
	if !plainProfilesOk(ps) {
		return nil, false
	}
	at := plainProfile(ps, name)
	if at < 0 || plainNow(ps[at]) < 1 {
		return ps, false
	}
	back := slices.Clone(ps)
	back[at].Now = ps[at].Gens[plainNow(ps[at])-1].N
	return back, true
}

func plainPrune(ps []impl.Profile, name string, keep int64) ([]impl.Profile, bool) {
	if !plainProfilesOk(ps) {
		return nil, false
	}
	at := plainProfile(ps, name)
	if at < 0 || keep < 0 {
		return ps, false
	}
	p := ps[at]
	kept := []impl.Gen{}
	for i, gen := range p.Gens {
		behind := int64(len(p.Gens) - i - 1)
		if behind < keep || gen.N == p.Now {
			kept = append(kept, gen)
		}
	}
	p.Gens = kept
	left := slices.Clone(ps)
	left[at] = p
	return left, true
}

func plainCurrent(ps []impl.Profile, name string) string {
	at := plainProfile(ps, name)
	if !plainProfilesOk(ps) || at < 0 || plainNow(ps[at]) < 0 {
		return ""
	}
	return ps[at].Gens[plainNow(ps[at])].Path
}

func plainRoots(ps []impl.Profile, extra []string) []string {
	if !plainProfilesOk(ps) || len(extra) > 2000 {
		return nil
	}
	roots := map[string]bool{}
	for _, p := range ps {
		for _, gen := range p.Gens {
			roots[gen.Path] = true
		}
	}
	for _, path := range extra {
		if plainAddress.MatchString(path) {
			roots[path] = true
		}
	}
	list := []string{}
	for path := range roots {
		list = append(list, path)
	}
	sort.Strings(list)
	return list
}

// plainLeft is what stays when these Paths go.
func plainLeft(st []impl.Item, gone []string) []impl.Item {
	left := []impl.Item{}
	for _, item := range st {
		if !slices.Contains(gone, item.Path) {
			left = append(left, item)
		}
	}
	return left
}

func plainCollect(st []impl.Item, roots []string) ([]impl.Item, []string) {
	if !plainStoreOk(st) || len(roots) > 2000 {
		return nil, nil
	}
	needed, gone := plainClosure(st, roots), []string{}
	for _, path := range plainPathsIn(st) {
		if !slices.Contains(needed, path) {
			gone = append(gone, path)
		}
	}
	return plainLeft(st, gone), gone
}

func plainCollectSome(st []impl.Item, roots []string, most int64) ([]impl.Item, []string) {
	if !plainStoreOk(st) || len(roots) > 2000 {
		return nil, nil
	}
	_, all := plainCollect(st, roots)
	gone := []string{}
	for {
		left := plainLeft(st, gone)
		doomed := slices.DeleteFunc(plainPathsIn(left), func(path string) bool { return !slices.Contains(all, path) })
		next := doomed
		for _, path := range doomed {
			if !slices.ContainsFunc(left, func(other impl.Item) bool { return other.Path != path && slices.Contains(other.Refs, path) }) {
				next = []string{path}
				break
			}
		}
		if len(next) == 0 || int64(len(gone)+len(next)) > most {
			return left, gone
		}
		gone = append(gone, next...)
	}
}
