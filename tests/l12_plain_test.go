package tests

import (
	"slices"
	"sort"

	"loop.example/g00023/impl"
)

// The store in plain words: whatever is asked is looked for in all items again.

func plainTreeSum(t []impl.Entry) string { return impl.Word32(impl.Sum(plainPack(t))) }

func plainPathsIn(st []impl.Item) []string {
	paths := []string{}
	for _, item := range st {
		paths = append(paths, item.Path)
	}
	return paths
}

func plainVerify(st []impl.Item) []string {
	wrong := []string{}
	if len(st) > 300 {
		return wrong
	}
	paths := plainPathsIn(st)
	for i, item := range st {
		isAddress := plainAddress.MatchString(item.Path)
		isFrom := item.From == "" || plainAddress.MatchString(item.From)
		isTree := plainTreeOk(item.Tree)
		isSum := isTree && item.Sum == plainTreeSum(item.Tree)
		areRefs := isTree && slices.Equal(item.Refs, plainRefs(item.Tree, paths))
		if !isAddress || !isFrom || !isSum || !areRefs || slices.Contains(paths[:i], item.Path) {
			wrong = append(wrong, item.Path)
		}
	}
	return wrong
}

func plainStoreOk(st []impl.Item) bool {
	return len(st) <= 300 && len(plainVerify(st)) == 0 && sort.StringsAreSorted(plainPathsIn(st))
}

// plainStore gives items their Sums and Refs, and sorts them.
func plainStore(items ...impl.Item) []impl.Item {
	st := slices.Clone(items)
	for i, item := range st {
		st[i].Sum = plainTreeSum(item.Tree)
		st[i].Refs = plainRefs(item.Tree, plainPathsIn(items))
	}
	sort.Slice(st, func(i, j int) bool { return st[i].Path < st[j].Path })
	return st
}

func plainItemAt(st []impl.Item, path string) int { return slices.Index(plainPathsIn(st), path) }

// plainAdd makes the greater store, and then asks whether those that were there are in it as they were.
func plainAdd(st []impl.Item, path string, tree []impl.Entry, from string) ([]impl.Item, int64) {
	if !plainStoreOk(st) || !plainAddress.MatchString(path) || from != "" && !plainAddress.MatchString(from) || !plainTreeOk(tree) {
		return nil, 5
	}
	if at := plainItemAt(st, path); at >= 0 {
		if st[at].Sum == plainTreeSum(tree) {
			return st, 1
		}
		return st, 2
	}
	more := plainStore(append(slices.Clone(st), impl.Item{Path: path, From: from, Tree: tree})...)
	for _, item := range st {
		if !same(item.Refs, more[plainItemAt(more, item.Path)].Refs) {
			return st, 3
		}
	}
	if len(more) > 300 {
		return st, 4
	}
	return more, 0
}

func plainClosure(st []impl.Item, paths []string) []string {
	if !plainStoreOk(st) || len(paths) > 2000 {
		return nil
	}
	there := []string{}
	for _, path := range plainPathsIn(st) {
		if slices.Contains(paths, path) {
			there = append(there, path)
		}
	}
	for {
		more := slices.Clone(there)
		for _, path := range there {
			more = append(more, st[plainItemAt(st, path)].Refs...)
		}
		sort.Strings(more)
		more = slices.Compact(more)
		if len(more) == len(there) {
			return there
		}
		there = more
	}
}

func plainUsedBy(st []impl.Item, path string) []string {
	users := []string{}
	for _, user := range plainPathsIn(st) {
		if slices.Contains(plainClosure(st, []string{user}), path) {
			users = append(users, user)
		}
	}
	return users
}

func plainWithout(st []impl.Item, paths []string) ([]impl.Item, bool) {
	if !plainStoreOk(st) || len(paths) > 2000 {
		return nil, false
	}
	left := []impl.Item{}
	for _, item := range st {
		if !slices.Contains(paths, item.Path) {
			left = append(left, item)
		}
	}
	// What something refers to and is gone makes what is left no store.
	if !plainStoreOk(left) {
		return st, false
	}
	return left, true
}

func plainOptimise(st []impl.Item) int64 {
	if !plainStoreOk(st) {
		return -1
	}
	all, once := int64(0), int64(0)
	files := map[impl.Entry]int64{}
	for _, item := range st {
		for _, e := range item.Tree {
			if e.Kind == 2 {
				e.Path = ""
				files[e] = int64(len(e.Data))
				all += int64(len(e.Data))
			}
		}
	}
	for _, size := range files {
		once += size
	}
	return all - once
}
