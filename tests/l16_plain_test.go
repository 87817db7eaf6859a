package tests

import (
	"fmt"
	"regexp"
	"slices"
	"strconv"
	"strings"

	"loop.example/g00023/impl"
)

// Caches in plain words: every offer is read again whenever something is asked.

func plainRefsOk(refs []string) bool {
	rows := [][]string{}
	for _, ref := range refs {
		if !plainAddress.MatchString(ref) {
			return false
		}
		rows = append(rows, []string{ref})
	}
	return len(refs) <= 300 && plainAscending(rows)
}

func plainSignedText(m impl.Manifest) string {
	if !plainAddress.MatchString(m.Path) || !plainWords13.MatchString(m.Sum) || m.Size < 0 || m.Size > 1000000 || !plainRefsOk(m.Refs) {
		return ""
	}
	text := fmt.Sprintf("path %s\nsum %s\nsize %d\n", m.Path, m.Sum, m.Size)
	for _, ref := range m.Refs {
		text += "ref " + ref + "\n"
	}
	return text
}

func plainManifestText(m impl.Manifest) string {
	text := plainSignedText(m)
	if text == "" || !plainNames60.MatchString(m.Key) {
		return ""
	}
	return text + "key " + m.Key + "\nsig " + impl.Word32(m.Sig) + "\n"
}

var plainManifestLines = regexp.MustCompile(`\A(path (` + plainWordPattern + `-` + plainNamePattern + `)\nsum (` + plainWordPattern + `)\nsize (0|[1-9][0-9]{0,6})\n((?:ref [^\n]*\n)*))key (` + plainNamePattern + `)\nsig (` + plainWordPattern + `)\n\z`)

func plainReadManifest(s string) (impl.Manifest, bool) {
	parts := plainManifestLines.FindStringSubmatch(s)
	if parts == nil {
		return impl.Manifest{}, false
	}
	m := impl.Manifest{Path: parts[2], Sum: parts[3], Key: parts[6]}
	m.Size, _ = strconv.ParseInt(parts[4], 10, 64)
	m.Sig, _ = impl.ReadWord32(parts[7])
	for line := range strings.Lines(parts[5]) {
		m.Refs = append(m.Refs, strings.TrimSuffix(line[4:], "\n"))
	}
	if m.Size > 1000000 || !plainRefsOk(m.Refs) {
		return impl.Manifest{}, false
	}
	return m, true
}

func plainSignManifest(m impl.Manifest, name string, k impl.Key) impl.Manifest {
	if text := plainSignedText(m); text != "" && plainNames60.MatchString(name) {
		m.Key, m.Sig = name, plainSign(k, []byte(text))
	}
	return m
}

// plainFaults are all numbers of Accept that are true of an offer, as far as they can be asked.
func plainFaults(o impl.Offer, path string, keys []impl.Trust) []int64 {
	m, isManifest := plainReadManifest(o.Manifest)
	if !isManifest {
		return []int64{1}
	}
	faults := []int64{}
	add := func(code int64, isFault bool) {
		if isFault {
			faults = append(faults, code)
		}
	}
	add(2, m.Path != path)
	signed, isTrusted := plainManifestLines.FindStringSubmatch(o.Manifest)[1], false
	for _, key := range keys {
		isTrusted = isTrusted || key.Name == m.Key && plainCheck(key.N, key.E, []byte(signed), m.Sig)
	}
	add(3, !isTrusted)
	add(4, int64(len(o.Body)) != m.Size)
	add(5, impl.Word32(impl.Sum(o.Body)) != m.Sum)
	tree, isTree := plainUnpack(o.Body)
	add(6, !isTree)
	for _, ref := range m.Refs {
		add(7, isTree && len(plainRefs(tree, []string{ref})) == 0)
	}
	return faults
}

func plainAccept(o impl.Offer, path string, keys []impl.Trust) int64 {
	return append(plainFaults(o, path, keys), 0)[0]
}

func plainFetchOne(path string, offers []impl.Offer, keys []impl.Trust) impl.Fetched {
	got := impl.Fetched{Number: -1}
	if len(offers) > 2000 {
		return got
	}
	for number, o := range offers {
		code := plainAccept(o, path, keys)
		got.Codes = append(got.Codes, code)
		if code == 0 {
			m, _ := plainReadManifest(o.Manifest)
			got.Mirror, got.Number, got.Refs = o.Mirror, int64(number), m.Refs
			got.Tree, _ = plainUnpack(o.Body)
			break
		}
	}
	return got
}

func plainFetchAll(st []impl.Item, paths []string, offers []impl.Offer, keys []impl.Trust) ([]impl.Item, []string) {
	if !plainStoreOk(st) || len(paths) > 2000 || len(offers) > 2000 {
		return nil, nil
	}
	looked := map[string]bool{}
	var look func(path string)
	look = func(path string) {
		if looked[path] || plainItemAt(st, path) >= 0 {
			return
		}
		looked[path] = true
		got := plainFetchOne(path, offers, keys)
		if got.Number < 0 {
			return
		}
		for _, ref := range got.Refs {
			look(ref)
		}
		for _, ref := range got.Refs {
			if ref != path && plainItemAt(st, ref) < 0 {
				return
			}
		}
		st, _ = plainAdd(st, path, got.Tree, "")
	}
	for _, path := range paths {
		look(path)
	}
	lack := []string{}
	for _, path := range paths {
		if plainItemAt(st, path) < 0 {
			lack = append(lack, path)
		}
	}
	slices.Sort(lack)
	return st, slices.Compact(lack)
}
