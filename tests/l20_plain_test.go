package tests

import (
	"slices"
	"sort"
	"strings"

	"loop.example/g00023/impl"
)

// Sessions in plain words: each step asks what the chapters ahead say in theirs, and reckons every address anew.

func plainDrvAt(ds []impl.Drv, address string) []impl.Drv {
	found := []impl.Drv{}
	for _, d := range ds {
		if impl.DrvAddress(d) == address {
			found = append(found, d)
		}
	}
	return found
}

func plainIsBuilt(w impl.World, d impl.Drv) bool {
	for _, output := range d.Outputs {
		if plainItemAt(w.Store, impl.OutPath(d, output)) < 0 {
			return false
		}
	}
	return true
}

func plainDeclared(ds []impl.Drv, d impl.Drv) []string {
	declared := slices.Clone(d.Sources)
	for _, use := range d.Inputs {
		for _, input := range plainDrvAt(ds, use.Drv) {
			declared = append(declared, impl.OutPath(input, use.Output))
		}
	}
	sort.Strings(declared)
	return slices.Compact(declared)
}

func plainGiven(w impl.World, declared []string) []impl.Given {
	given := []impl.Given{}
	for _, path := range declared {
		if at := plainItemAt(w.Store, path); at >= 0 {
			given = append(given, impl.Given{Path: path, Tree: w.Store[at].Tree})
		}
	}
	return given
}

func plainRealise(w impl.World, src string, lib []impl.File, budget, steps int64) impl.Realised {
	if !plainWorldOk(w) || steps < 0 || steps > 10000 {
		return impl.Realised{Code: 100}
	}
	a := impl.Eval(src, lib, budget)
	if a.Code != 0 {
		return impl.Realised{Code: a.Code, World: w}
	}
	r := impl.Realised{World: w}
	for _, d := range a.Drvs {
		if plainIsBuilt(r.World, d) {
			continue
		}
		address, declared := impl.DrvAddress(d), plainDeclared(a.Drvs, d)
		built := plainBuild(d, declared, plainGiven(r.World, declared), steps)
		if built.Code != 0 {
			return impl.Realised{Code: 200 + built.Code, Which: address, World: r.World, Log: built.Log}
		}
		for _, out := range built.Outs {
			_, code := plainAdd(r.World.Store, out.Path, out.Tree, address)
			plan := plainPlanAdd(r.World, out.Path, out.Tree, address)
			if code < 2 && len(plan) == 0 {
				code = 4
			}
			if code >= 2 {
				return impl.Realised{Code: 300 + code, Which: address, World: r.World, Log: built.Log}
			}
			r.World = plainRun(r.World, plan, 2)
		}
		r.Made, r.Log = append(r.Made, address), append(r.Log, built.Log...)
	}
	for _, entry := range a.Context {
		drv, output, isUsed := strings.Cut(entry, "!")
		if !isUsed && plainItemAt(r.World.Store, entry) >= 0 {
			r.Paths = append(r.Paths, entry)
		}
		if isUsed {
			r.Paths = append(r.Paths, impl.OutPath(plainDrvAt(a.Drvs, drv)[0], output))
		}
	}
	sort.Strings(r.Paths)
	r.Paths = slices.Compact(r.Paths)
	return r
}

// plainWrap holds every entry against every one ahead of it.
func plainWrap(w impl.World, paths []string) ([]impl.Entry, bool) {
	if !plainWorldOk(w) || len(paths) > 2000 {
		return nil, false
	}
	tree, ahead := []impl.Entry{}, []impl.Entry{}
	for _, path := range paths {
		at := plainItemAt(w.Store, path)
		if at < 0 {
			return nil, false
		}
		for _, e := range w.Store[at].Tree {
			met := plainFind(ahead, e.Path)
			ahead = append(ahead, e)
			switch {
			case met >= 0 && ahead[met].Kind == 1 && e.Kind == 1, met >= 0 && ahead[met] == e:
			case met >= 0:
				return nil, false
			case e.Kind == 1:
				tree = append(tree, impl.Entry{Path: e.Path, Kind: 1})
			default:
				tree = append(tree, impl.Entry{Path: e.Path, Kind: 3, Data: path + "/" + e.Path})
			}
		}
	}
	sort.Slice(tree, func(i, j int) bool { return tree[i].Path < tree[j].Path })
	if !plainTreeOk(tree) {
		return nil, false
	}
	return tree, true
}

func plainInstall(w impl.World, name, src string, lib []impl.File, budget, steps int64) impl.Installed {
	r := plainRealise(w, src, lib, budget, steps)
	if r.Code != 0 {
		return impl.Installed{Code: r.Code, World: r.World}
	}
	tree, ok := plainWrap(r.World, r.Paths)
	if !ok || !plainNames60.MatchString(name) {
		return impl.Installed{Code: 400, World: r.World}
	}
	path := impl.Address("profile", name, plainPack(tree))
	plan := plainPlanInstall(r.World, name, []impl.Out{{Path: path, Tree: tree}})
	if len(plan) == 0 {
		return impl.Installed{Code: 500, World: r.World}
	}
	return impl.Installed{World: plainRun(r.World, plan, int64(len(plan))), Path: path, Writes: plan}
}

func plainCompose(p impl.Problem) (string, int64) {
	found := impl.Solve(p)
	if found.Code != 0 {
		return "", found.Code
	}
	text := "let all = rec { "
	for _, pick := range found.Picks {
		es, at := impl.Parse(pick.Name)
		if at >= 0 || len(es) != 1 || es[0].Kind != impl.ExName || slices.Contains(strings.Fields(builtinsInOrder), pick.Name) {
			return "", 1
		}
		made, _ := plainRecipeIn(p.Index, pick)
		text += pick.Name + " = (" + made.Source + ") { "
		for _, dep := range plainActive(made, p.Flags) {
			if _, isPicked := plainVersionIn(found.Picks, dep.Name); isPicked {
				text += dep.Name + " = " + dep.Name + "; "
			}
		}
		text += "version = \"" + pick.Version + "\"; }; "
	}
	text += "}; in [ "
	for _, wanted := range p.Wants {
		text += "all." + wanted.Name + " "
	}
	return text + "]", 0
}

func plainDeploy(w impl.World, name string, p impl.Problem, steps int64) impl.Installed {
	src, code := plainCompose(p)
	if code != 0 {
		return impl.Installed{Code: 600 + code, World: w}
	}
	return plainInstall(w, name, src, nil, 50000, steps)
}

// plainBehind is what stands behind a profile.
func plainBehind(w impl.World, name string) []string {
	if !plainWorldOk(w) {
		return nil
	}
	for _, p := range w.Profiles {
		for _, gen := range p.Gens {
			if p.Name == name && gen.N == p.Now {
				return plainClosure(w.Store, []string{gen.Path})
			}
		}
	}
	return nil
}
