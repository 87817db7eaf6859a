package tests

import (
	"slices"
	"sort"

	"loop.example/g00023/impl"
)

// The world in plain words: each step asks the whole world anew, and looks for every path in all of it.

func plainPendingOk(p impl.Pending) bool {
	return plainAddress.MatchString(p.Path) && (p.From == "" || plainAddress.MatchString(p.From)) && plainTreeOk(p.Tree)
}

func plainNextOk(n impl.Next) bool {
	return plainNames60.MatchString(n.Name) && plainAddress.MatchString(n.Path)
}

func plainWorldOk(w impl.World) bool {
	for _, p := range w.Pending {
		if !plainPendingOk(p) {
			return false
		}
	}
	for _, n := range w.Nexts {
		if !plainNextOk(n) {
			return false
		}
	}
	for _, p := range w.Profiles {
		for _, gen := range p.Gens {
			if plainItemAt(w.Store, gen.Path) < 0 {
				return false
			}
		}
	}
	return plainStoreOk(w.Store) && plainProfilesOk(w.Profiles) && len(w.Pending) <= 20 && len(w.Nexts) <= 20
}

// plainNeeded is the Closure of Roots: of the profiles, and of all that has been begun.
func plainNeeded(w impl.World) []string {
	begun := []string{}
	for _, n := range w.Nexts {
		begun = append(begun, n.Path)
	}
	for _, p := range w.Pending {
		begun = append(begun, p.Path)
		begun = append(begun, plainRefs(p.Tree, plainPathsIn(w.Store))...)
	}
	sort.Strings(begun)
	return plainClosure(w.Store, plainRoots(w.Profiles, slices.Compact(begun)))
}

func plainCanCut(w impl.World, path string) bool {
	for _, item := range w.Store {
		if item.Path != path && slices.Contains(item.Refs, path) {
			return false
		}
	}
	return plainItemAt(w.Store, path) >= 0 && !slices.Contains(plainNeeded(w), path)
}

func plainFinish(w impl.World, path string) impl.World {
	left := []impl.Pending{}
	for i, p := range w.Pending {
		if p.Path != path {
			left = append(left, p)
		} else if !slices.ContainsFunc(w.Pending[i+1:], func(other impl.Pending) bool { return other.Path == path }) {
			w.Store, _ = plainAdd(w.Store, p.Path, p.Tree, p.From)
		}
	}
	w.Pending = left
	return w
}

func plainSwitchNext(w impl.World, name string) impl.World {
	left, last := []impl.Next{}, ""
	for _, n := range w.Nexts {
		if n.Name == name {
			last = n.Path
		} else {
			left = append(left, n)
		}
	}
	w.Nexts = left
	if plainItemAt(w.Store, last) >= 0 {
		w.Profiles, _ = plainSwitch(w.Profiles, name, last)
	}
	return w
}

// plainDo gives a world that has some of its lists from the one that it is given.
func plainDo(w impl.World, x impl.Write) impl.World {
	if !plainWorldOk(w) {
		return impl.World{}
	}
	switch x.Kind {
	case 1:
		if p := (impl.Pending{Path: x.Path, Tree: x.Tree, From: x.From}); plainPendingOk(p) && len(w.Pending) < 20 {
			w.Pending = append(slices.Clone(w.Pending), p)
		}
	case 2:
		return plainFinish(w, x.Path)
	case 3:
		if n := (impl.Next{Name: x.Name, Path: x.Path}); plainNextOk(n) && len(w.Nexts) < 20 {
			w.Nexts = append(slices.Clone(w.Nexts), n)
		}
	case 4:
		return plainSwitchNext(w, x.Name)
	case 5:
		w.Profiles, _ = plainRollback(w.Profiles, x.Name)
	case 6:
		w.Profiles, _ = plainPrune(w.Profiles, x.Name, x.N)
	case 7:
		if plainCanCut(w, x.Path) {
			w.Store = plainLeft(w.Store, []string{x.Path})
		}
	}
	return w
}

func plainPlanAdd(w impl.World, path string, tree []impl.Entry, from string) []impl.Write {
	if _, code := plainAdd(w.Store, path, tree, from); !plainWorldOk(w) || code >= 2 || len(w.Pending) >= 20 {
		return nil
	}
	return []impl.Write{{Kind: 1, Path: path, Tree: tree, From: from}, {Kind: 2, Path: path}}
}

func plainPlanInstall(w impl.World, name string, outs []impl.Out) []impl.Write {
	if !plainWorldOk(w) || !plainNames60.MatchString(name) || len(outs) < 1 || len(outs) > 20 || len(w.Nexts) >= 20 {
		return nil
	}
	plan := []impl.Write{}
	for _, out := range outs {
		_, code := plainAdd(w.Store, out.Path, out.Tree, "")
		xs := plainPlanAdd(w, out.Path, out.Tree, "")
		if len(xs) == 0 && code != 1 {
			return nil
		}
		for _, x := range xs {
			w = plainDo(w, x)
		}
		plan = append(plan, xs...)
	}
	return append(plan, impl.Write{Kind: 3, Name: name, Path: outs[len(outs)-1].Path}, impl.Write{Kind: 4, Name: name})
}

func plainPlanCollect(w impl.World) []impl.Write {
	if !plainWorldOk(w) {
		return nil
	}
	plan := []impl.Write{}
	for {
		at := slices.IndexFunc(w.Store, func(item impl.Item) bool { return plainCanCut(w, item.Path) })
		if at < 0 {
			return plan
		}
		cut := impl.Write{Kind: 7, Path: w.Store[at].Path}
		plan, w = append(plan, cut), plainDo(w, cut)
	}
}

func plainRecover(w impl.World) impl.World {
	if !plainWorldOk(w) {
		return impl.World{}
	}
	w.Pending, w.Nexts = nil, nil
	return w
}

func plainRun(w impl.World, xs []impl.Write, n int64) impl.World {
	if !plainWorldOk(w) || len(xs) > 2000 {
		return impl.World{}
	}
	for i, x := range xs {
		if int64(i) < n {
			w = plainDo(w, x)
		}
	}
	return w
}
