package tests

import (
	"bytes"
	"encoding/binary"
	"fmt"
	"math/rand"
	"regexp"
	"slices"
	"sort"
	"strings"
	"testing"

	"loop.example/g00023/impl"
)

// entryAt makes "a/" (a directory), "a=data" (a file), "a*data" (one with Exec) and "a>data" (a link).
func entryAt(s string) impl.Entry {
	if path, isDir := strings.CutSuffix(s, "/"); isDir {
		return impl.Entry{Path: path, Kind: 1}
	}
	at := strings.IndexAny(s, "=*>")
	made := impl.Entry{Path: s[:at], Kind: 2, Data: s[at+1:], Exec: s[at] == '*'}
	if s[at] == '>' {
		made.Kind = 3
	}
	return made
}

func entriesOf(s string) []impl.Entry {
	made := []impl.Entry{}
	for _, word := range strings.Fields(s) {
		made = append(made, entryAt(word))
	}
	return made
}

func shownEntries(t []impl.Entry) string {
	words := []string{}
	for _, e := range t {
		switch {
		case e.Kind == 1:
			words = append(words, e.Path+"/")
		case e.Kind == 3:
			words = append(words, e.Path+">"+e.Data)
		case e.Exec:
			words = append(words, e.Path+"*"+e.Data)
		default:
			words = append(words, e.Path+"="+e.Data)
		}
	}
	return strings.Join(words, " ")
}

const manyKinds = "a/ a+b=x a-/ a-/c=y a.b>to a/b/ a/b/c*run a/d>../b a/e= a0/ ab=z b>a/b/c"

var plainPaths = regexp.MustCompile(`\A[-a-zA-Z0-9_+][-a-zA-Z0-9_.+]{0,59}(?:/[-a-zA-Z0-9_+][-a-zA-Z0-9_.+]{0,59}){0,7}\z`)

func plainContentOk(e impl.Entry) bool {
	switch e.Kind {
	case 1:
		return len(e.Data) == 0 && !e.Exec
	case 2:
		return len(e.Data) <= 20000
	case 3:
		return len(e.Data) >= 1 && len(e.Data) <= 20000 && !e.Exec
	}
	return false
}

func plainTreeOk(t []impl.Entry) bool {
	dirs := map[string]bool{}
	rows := [][]string{}
	for _, e := range t {
		dirs[e.Path] = e.Kind == 1
		rows = append(rows, []string{e.Path})
	}
	for _, e := range t {
		last := strings.LastIndex(e.Path, "/")
		if !plainPaths.MatchString(e.Path) || !plainContentOk(e) || last >= 0 && !dirs[e.Path[:last]] {
			return false
		}
	}
	return len(t) <= 500 && plainAscending(rows)
}

func plainFind(t []impl.Entry, path string) int {
	return slices.IndexFunc(t, func(e impl.Entry) bool { return e.Path == path })
}

func plainPut(t []impl.Entry, e impl.Entry) ([]impl.Entry, bool) {
	put := []impl.Entry{e}
	for _, old := range t {
		if old.Path != e.Path {
			put = append(put, old)
		} else if old.Kind == 1 && e.Kind != 1 && len(plainBelow(t, e.Path)) > 0 {
			return t, false
		}
	}
	sort.Slice(put, func(i, j int) bool { return put[i].Path < put[j].Path })
	if !plainTreeOk(put) {
		return t, false
	}
	return put, true
}

func plainCut(t []impl.Entry, path string) ([]impl.Entry, bool) {
	left := []impl.Entry{}
	for _, e := range t {
		if e.Path != path && !strings.HasPrefix(e.Path, path+"/") {
			left = append(left, e)
		}
	}
	if plainFind(t, path) < 0 {
		return t, false
	}
	return left, true
}

func plainBelow(t []impl.Entry, path string) []impl.Entry {
	below := []impl.Entry{}
	for _, e := range t {
		if short, isBelow := strings.CutPrefix(e.Path, path+"/"); isBelow {
			e.Path = short
			below = append(below, e)
		}
	}
	return below
}

func plainPack(t []impl.Entry) []byte {
	packed := binary.AppendUvarint([]byte("LAR1"), uint64(len(t)))
	for _, e := range t {
		kind := map[bool]byte{false: 0, true: 16}[e.Exec] + byte(e.Kind)
		packed = append(binary.AppendUvarint(append(packed, kind), uint64(len(e.Path))), e.Path...)
		packed = append(binary.AppendUvarint(packed, uint64(len(e.Data))), e.Data...)
	}
	return packed
}

// plainNumber refuses a number that has a group more than it needs.
func plainNumber(b []byte) (int, []byte, bool) {
	n, size := binary.Uvarint(b)
	if size <= 0 || len(binary.AppendUvarint(nil, n)) != size || n > 20000 {
		return 0, nil, false
	}
	return int(n), b[size:], true
}

func plainPiece(b []byte) (string, []byte, bool) {
	size, rest, ok := plainNumber(b)
	if !ok || len(rest) < size {
		return "", nil, false
	}
	return string(rest[:size]), rest[size:], true
}

func plainUnpack(b []byte) ([]impl.Entry, bool) {
	rest, isTree := bytes.CutPrefix(b, []byte("LAR1"))
	n, rest, ok := plainNumber(rest)
	t := []impl.Entry{}
	for range n {
		if len(rest) == 0 || !slices.Contains([]byte{1, 2, 3, 18}, rest[0]) {
			return nil, false
		}
		e := impl.Entry{Kind: int64(rest[0] % 16), Exec: rest[0] == 18}
		var isPath, isData bool
		e.Path, rest, isPath = plainPiece(rest[1:])
		e.Data, rest, isData = plainPiece(rest)
		if !isPath || !isData {
			return nil, false
		}
		t = append(t, e)
	}
	return t, isTree && ok && len(rest) == 0 && plainTreeOk(t)
}

func plainRefs(t []impl.Entry, among []string) []string {
	refs := []string{}
	for _, address := range among {
		stands := func(e impl.Entry) bool { return strings.Contains(e.Data, address[:13]) }
		if plainAddress.MatchString(address) && slices.ContainsFunc(t, stands) {
			refs = append(refs, address)
		}
	}
	sort.Strings(refs)
	return slices.Compact(refs)
}

func plainReplace(t []impl.Entry, from, to string) []impl.Entry {
	replaced := []impl.Entry{}
	for _, e := range t {
		data := ""
		for i := 0; i < len(e.Data); {
			if strings.HasPrefix(e.Data[i:], from) {
				data += to
				i += len(from)
			} else {
				data += e.Data[i : i+1]
				i++
			}
		}
		e.Data = data
		replaced = append(replaced, e)
	}
	return replaced
}

var (
	oneAddress   = impl.Address("out", "one", []byte("1"))
	twoAddress   = impl.Address("out", "two", []byte("2"))
	threeAddress = impl.Address("out", "three", []byte("3"))
)

// treeCan holds all that asks whether a list is a tree against what is wanted.
func treeCan(t *testing.T, what string, list []impl.Entry, want bool) {
	t.Helper()
	if got, plain := impl.TreeOk(list), plainTreeOk(list); got != want || plain != want {
		t.Fatalf("%s: TreeOk is %v, in plain words %v, wanted %v", what, got, plain, want)
	}
	for number, e := range list {
		if got := impl.FindEntry(list, e.Path); want && got != int64(number) || !want && got != -1 {
			t.Fatalf("%s: %q is found at %d, not at %d", what, e.Path, got, number)
		}
	}
	if packed := impl.PackTree(list); want && !bytes.Equal(packed, plainPack(list)) || !want && len(packed) > 0 {
		t.Fatalf("%s: packed as %.80q", what, packed)
	}
	if got := impl.TreeSum(list); want && got != impl.Word32(impl.Sum(plainPack(list))) || !want && got != "" {
		t.Fatalf("%s: its sum is %q", what, got)
	}
	unpacks(t, plainPack(list))
	if want {
		if got, ok := impl.UnpackTree(plainPack(list)); !ok || !slices.Equal(got, list) {
			t.Fatalf("%s: unpacked as %.80q %v", what, shownEntries(got), ok)
		}
		if got := impl.Replace(list, oneAddress, twoAddress); len(got) != len(list) {
			t.Fatalf("%s: replaced it has %d entries", what, len(got))
		}
		return
	}
	put, isPut := impl.PutEntry(list, entryAt("zz=1"))
	left, isCut := impl.CutEntry(list, "a")
	if len(put) > 0 || isPut || len(left) > 0 || isCut {
		t.Fatalf("%s: put into it gives %q %v, cut %q %v", what, shownEntries(put), isPut, shownEntries(left), isCut)
	}
	if below, replaced := impl.Below(list, "a"), impl.Replace(list, oneAddress, twoAddress); len(below) > 0 || len(replaced) > 0 {
		t.Fatalf("%s: below is %q, replaced %q", what, shownEntries(below), shownEntries(replaced))
	}
	if refs := impl.RefsIn(list, []string{oneAddress}); len(refs) > 0 {
		t.Fatalf("%s: refers to %q", what, refs)
	}
}

func TestTreeOk(t *testing.T) {
	treeCan(t, "many kinds", entriesOf(manyKinds), true)
	for _, row := range []struct {
		list string
		want bool
	}{
		{"", true}, {"a/", true}, {"a=", true}, {"a=x", true}, {"a*", true}, {"a*x", true}, {"a>x", true}, {"a>", false},
		{"a=x b=x", true}, {"b=x a=x", false}, {"a=x a=x", false}, {"a=x a=y", false}, {"a=x b=x a=x", false}, {"B=x a=x", true}, {"a=x B=x", false},
		{"a/ a/b=x", true}, {"a/b=x", false}, {"a/b=x a/", false}, {"a=x a/b=x", false}, {"a*x a/b=x", false}, {"a>x a/b=x", false}, {"a>b a/c=x b/ b/c=x", false}, {"b/ a/b=x", false},
		{"a/ a/b/ a/b/c/ a/b/c/d=x", true}, {"a/ a/b/c=x", false}, {"a/ a/b=x a/b/c=x", false}, {"a/ a/b/c/ a/b/c/d=", false}, {"a/ a/b/ a/c=x a/b/c=x", false},
		{"a/ a+=x a-=x a.=x a/b=x a0=x", true}, {"a/ a/b=x a-=x", false}, {"a/ a/b=x a.=x", false}, {"a/ a0=x a/b=x", false}, {"a=x a0/ a0/b=x", true}, {"a0/ a/b=x", false}, {"a-/ a/b=x", false},
		{"-=x", true}, {"+=x _=x", true}, {".a=x", false}, {"a/ a/.b=x", false}, {"a/ a/b.=x", true}, {"a/ a/b.c/ a/b.c/..=x", false}, {"a~=x", false}, {"a\x00=x", false}, {"ä=x", false},
		{"=x", false}, {"/", false}, {"/a=x", false}, {"a/ a/=x", false}, {"a/ a//b=x", false}, {"a/ a//=x", false}, {"//=x", false}, {"a//", false}, {"a/ a/b/ a/b//c=x", false},
	} {
		treeCan(t, row.list, entriesOf(row.list), row.want)
	}
	treeCan(t, "no list", nil, true)
	treeCan(t, "the zero value", make([]impl.Entry, 1), false)
	treeCan(t, "a blank in a name", []impl.Entry{{Path: "a b", Kind: 2}}, false)
	treeCan(t, "a newline in a name", []impl.Entry{{Path: "a\n", Kind: 2}}, false)
}

func TestTreesWithOtherContents(t *testing.T) {
	for _, kind := range []int64{-1, 0, 1, 2, 3, 4, 16, 17, 18, 258, 1<<32 + 2, 1 << 62} {
		for _, size := range []int{0, 1, 19999, 20000, 20001, 40000} {
			for _, exec := range []bool{false, true} {
				e := impl.Entry{Path: "a", Kind: kind, Data: strings.Repeat("\xff", size), Exec: exec}
				want := kind == 1 && size == 0 && !exec || kind == 2 && size <= 20000 || kind == 3 && size > 0 && size <= 20000 && !exec
				treeCan(t, fmt.Sprint(kind, size, exec), []impl.Entry{e}, want)
			}
		}
	}
	if impl.EntDir != 1 || impl.EntFile != 2 || impl.EntLink != 3 || impl.MaxEntries != 500 || impl.MaxDeep != 8 || impl.MaxData != 20000 {
		t.Error("a constant is another one")
	}
}

func TestTreesByDepth(t *testing.T) {
	list := []impl.Entry{}
	path := strings.Repeat("n", 60)
	for deep := 1; deep <= 10; deep++ {
		treeCan(t, fmt.Sprint(deep, " names"), append(slices.Clone(list), impl.Entry{Path: path, Kind: 2, Data: "x"}), deep <= 8)
		treeCan(t, fmt.Sprint(deep, " names, the last a name of 61"), append(slices.Clone(list), impl.Entry{Path: path + "n", Kind: 2}), false)
		list = append(list, impl.Entry{Path: path, Kind: 1})
		treeCan(t, fmt.Sprint(deep, " directories"), list, deep <= 8)
		path += "/" + strings.Repeat("n", 60)
	}
	treeCan(t, "very many names", []impl.Entry{{Path: strings.Repeat("n/", 1<<20) + "n", Kind: 2}}, false)
}

func manyEntries(n int) []impl.Entry {
	return entriesOf(strings.Join(numbers("f%04d=x", n), " "))
}

func TestMaxEntries(t *testing.T) {
	for _, n := range []int{126, 127, 128, 129, 499, 500} {
		treeCan(t, fmt.Sprint(n, " entries"), manyEntries(n), true)
	}
	for _, n := range []int{501, 512, 1000, 20000} {
		treeCan(t, fmt.Sprint(n, " entries"), manyEntries(n), false)
	}
	full := manyEntries(500)
	putIs(t, full, entryAt("a=x"), full, false)
	putIs(t, full, entryAt("z/"), full, false)
	putIs(t, full[1:], full[0], full, true)
	putIs(t, full[:499], full[499], full, true)
	changed := slices.Clone(full)
	changed[250] = entryAt("f0250>y")
	putIs(t, full, changed[250], changed, true)
}

func putIs(t *testing.T, list []impl.Entry, e impl.Entry, want []impl.Entry, ok bool) {
	t.Helper()
	got, isPut := impl.PutEntry(list, e)
	if isPut != ok || !slices.Equal(got, want) {
		t.Fatalf("%.400q with %.80q is %.400q %v, not %.400q %v", shownEntries(list), shownEntries([]impl.Entry{e}), shownEntries(got), isPut, shownEntries(want), ok)
	}
	if ok && impl.FindEntry(got, e.Path) != int64(plainFind(want, e.Path)) {
		t.Fatalf("%q is not found where it was put", e.Path)
	}
}

func cutIs(t *testing.T, list []impl.Entry, path string, want []impl.Entry, ok bool) {
	t.Helper()
	got, isCut := impl.CutEntry(list, path)
	if isCut != ok || !slices.Equal(got, want) {
		t.Fatalf("%q without %q is %q %v, not %q %v", shownEntries(list), path, shownEntries(got), isCut, shownEntries(want), ok)
	}
	if impl.FindEntry(got, path) != -1 {
		t.Fatalf("%q is found where it was cut", path)
	}
}

func TestFindEntry(t *testing.T) {
	list := entriesOf(manyKinds)
	for path, want := range map[string]int64{
		"a": 0, "a+b": 1, "a-": 2, "a-/c": 3, "a.b": 4, "a/b": 5, "a/b/c": 6, "a/d": 7, "a/e": 8, "a0": 9, "ab": 10, "b": 11,
		"": -1, "/": -1, "a/": -1, "/a": -1, "a//b": -1, "a/b/": -1, "a/c": -1, "c": -1, "a/b/c/d": -1, "b/x": -1, "a/d/x": -1, "A": -1, "a ": -1, "a/b/c\x00": -1, ".": -1, "a/.": -1, "a0/c": -1,
		strings.Repeat("a/", 1<<20): -1,
	} {
		if got := impl.FindEntry(list, path); got != want {
			t.Errorf("%.40q is found at %d, not at %d", path, got, want)
		}
		if got := impl.FindEntry(nil, path); got != -1 {
			t.Errorf("%.40q is found in the empty tree at %d", path, got)
		}
	}
	if got := impl.FindEntry(entriesOf("b=x a=x"), "a"); got != -1 {
		t.Error("found in what is no tree:", got)
	}
}

func TestPutEntry(t *testing.T) {
	list := "a/ a/b=x c/ d>a e*x"
	for _, row := range []struct{ e, want string }{
		{"b=new", "a/ a/b=x b=new c/ d>a e*x"}, {"A/", "A/ a/ a/b=x c/ d>a e*x"}, {"f>x", "a/ a/b=x c/ d>a e*x f>x"}, {"a-=", "a/ a-= a/b=x c/ d>a e*x"}, {"a/c.=\x00", "a/ a/b=x a/c.=\x00 c/ d>a e*x"}, {"a/a*1", "a/ a/a*1 a/b=x c/ d>a e*x"}, {"c/c/", "a/ a/b=x c/ c/c/ d>a e*x"},
		{"a/b=y", "a/ a/b=y c/ d>a e*x"}, {"a/b*x", "a/ a/b*x c/ d>a e*x"}, {"a/b>x", "a/ a/b>x c/ d>a e*x"}, {"a/b/", "a/ a/b/ c/ d>a e*x"}, {"d=x", "a/ a/b=x c/ d=x e*x"}, {"e/", "a/ a/b=x c/ d>a e/"}, {"e=x", "a/ a/b=x c/ d>a e=x"},
		{"c=x", "a/ a/b=x c=x d>a e*x"}, {"c>x", "a/ a/b=x c>x d>a e*x"}, {"c/", list}, {"a/", list}, {"a/b=x", list}, {"e*x", list},
	} {
		putIs(t, entriesOf(list), entryAt(row.e), entriesOf(row.want), true)
	}
	for _, e := range []string{"a=x", "a*x", "a>x", "b/c=x", "c/d/e=x", "a/b/c=x", "d/x=x", "d/b=x", "e/x/", "f>", ".f=x", "=x", "/f=x", "f//", "a//c=x", "a/ c=x"} {
		putIs(t, entriesOf(list), entryAt(e), entriesOf(list), false)
	}
	for _, e := range []impl.Entry{{}, {Path: "f"}, {Path: "f", Kind: 4}, {Path: "f", Kind: 1, Data: "x"}, {Path: "f", Kind: 1, Exec: true}, {Path: "f", Kind: 3, Data: "x", Exec: true}, {Path: "a", Kind: 1, Exec: true}, {Path: "a/b", Kind: 0}, {Path: "f", Kind: 2, Data: strings.Repeat("x", 20001)}, {Path: "f", Kind: 3, Data: strings.Repeat("x", 20001)}} {
		putIs(t, entriesOf(list), e, entriesOf(list), false)
		putIs(t, nil, e, nil, false)
	}
	putIs(t, nil, entryAt("a=x"), entriesOf("a=x"), true)
	putIs(t, nil, entryAt("a/b=x"), nil, false)
	putIs(t, entriesOf("b=x a=x"), entryAt("a=x"), nil, false)
	putIs(t, entriesOf("a/b=x"), entryAt("a/"), nil, false)
}

func TestPutEntryByDepth(t *testing.T) {
	list := []impl.Entry{}
	for deep := 1; deep <= 8; deep++ {
		put := append(slices.Clone(list), impl.Entry{Path: "d" + strings.Repeat("/d", deep-1), Kind: 1})
		putIs(t, list, put[deep-1], put, true)
		list = put
	}
	putIs(t, list, entryAt("d/d/d/d/d/d/d/d/d=x"), list, false)
	putIs(t, list, entryAt("d/d/d/d/d/d/d/d/d/"), list, false)
}

func TestCutEntry(t *testing.T) {
	for _, row := range []struct{ path, want string }{
		{"a", "a+b=x a-/ a-/c=y a.b>to a0/ ab=z b>a/b/c"},
		{"a+b", "a/ a-/ a-/c=y a.b>to a/b/ a/b/c*run a/d>../b a/e= a0/ ab=z b>a/b/c"},
		{"a-", "a/ a+b=x a.b>to a/b/ a/b/c*run a/d>../b a/e= a0/ ab=z b>a/b/c"},
		{"a/b", "a/ a+b=x a-/ a-/c=y a.b>to a/d>../b a/e= a0/ ab=z b>a/b/c"},
		{"a/d", "a/ a+b=x a-/ a-/c=y a.b>to a/b/ a/b/c*run a/e= a0/ ab=z b>a/b/c"},
		{"a/e", "a/ a+b=x a-/ a-/c=y a.b>to a/b/ a/b/c*run a/d>../b a0/ ab=z b>a/b/c"},
		{"a0", "a/ a+b=x a-/ a-/c=y a.b>to a/b/ a/b/c*run a/d>../b a/e= ab=z b>a/b/c"},
		{"b", "a/ a+b=x a-/ a-/c=y a.b>to a/b/ a/b/c*run a/d>../b a/e= a0/ ab=z"},
	} {
		cutIs(t, entriesOf(manyKinds), row.path, entriesOf(row.want), true)
	}
	for _, path := range []string{"", "/", "a/", "/a", "a//b", "a/c", "c", "a/b/c/d", "b/b", "A", "a.", "a/b/", "aa"} {
		cutIs(t, entriesOf(manyKinds), path, entriesOf(manyKinds), false)
		cutIs(t, nil, path, nil, false)
		cutIs(t, entriesOf("b=x a=x"), path, nil, false)
	}
	cutIs(t, entriesOf("b=x a=x"), "a", nil, false)
	cutIs(t, entriesOf("a/ a/b/ a/b/c="), "a", nil, true)
	cutIs(t, entriesOf("a/ a/b/ a/b/c="), "a/b/c", entriesOf("a/ a/b/"), true)
}

func TestBelow(t *testing.T) {
	for path, want := range map[string]string{
		"a": "b/ b/c*run d>../b e=", "a-": "c=y", "a/b": "c*run", "a0": "", "ab": "", "b": "", "a/b/c": "", "a/d": "",
		"": "", "/": "", "a/": "", "/a": "", "c": "", "a/x": "", "a/b/c/d": "", "a/b/": "", "A": "",
	} {
		if got := impl.Below(entriesOf(manyKinds), path); !slices.Equal(got, entriesOf(want)) {
			t.Errorf("below %q is %q, not %q", path, shownEntries(got), want)
		}
		if got := impl.Below(nil, path); len(got) > 0 {
			t.Errorf("below %q in the empty tree is %q", path, shownEntries(got))
		}
	}
	alike := entriesOf("a/ a-/ a-/a/ a-/a/x=1 a/a/ a/a-/ a/a-/a=2 a/a/a/ a/a/a/a=3 aa/ aa/a=4")
	for path, want := range map[string]string{"a": "a/ a-/ a-/a=2 a/a/ a/a/a=3", "a/a": "a/ a/a=3", "a/a/a": "a=3", "a-": "a/ a/x=1", "a-/a": "x=1", "a/a-": "a=2", "aa": "a=4", "a/a/a/a": ""} {
		if got := impl.Below(alike, path); !slices.Equal(got, entriesOf(want)) {
			t.Errorf("below %q is %q, not %q", path, shownEntries(got), want)
		}
	}
	if got := impl.Below(entriesOf("a/ a/c=x a/b=x"), "a"); len(got) > 0 {
		t.Error("below a directory of what is no tree:", shownEntries(got))
	}
}

// everyTree calls see with all lists of these paths, in order, of which each is not there, a directory, a file or a link.
func everyTree(paths []string, ahead []impl.Entry, see func([]impl.Entry)) {
	if len(paths) == 0 {
		see(ahead)
		return
	}
	everyTree(paths[1:], ahead, see)
	for _, ending := range []string{"/", "*x", ">y"} {
		everyTree(paths[1:], append(slices.Clone(ahead), entryAt(paths[0]+ending)), see)
	}
}

// Of all small trees: what is put is found, cut again it leaves the tree as it was, and all is as in plain words.
func TestEverySmallTree(t *testing.T) {
	paths := strings.Fields("a a- a/b a/b/c a/c b")
	trees := 0
	everyTree(paths, nil, func(list []impl.Entry) {
		if !plainTreeOk(list) {
			treeCan(t, shownEntries(list), list, false)
			return
		}
		trees++
		treeCan(t, shownEntries(list), list, true)
		for _, path := range append(paths, "", "a/", "a/b/c/d", "c", "-") {
			want, ok := plainCut(list, path)
			cutIs(t, list, path, want, ok)
			if got := impl.Below(list, path); !slices.Equal(got, plainBelow(list, path)) || !plainTreeOk(got) {
				t.Fatalf("below %q in %q is %q", path, shownEntries(list), shownEntries(got))
			}
			if got := impl.FindEntry(list, path); got != int64(plainFind(list, path)) {
				t.Fatalf("%q is found in %q at %d", path, shownEntries(list), got)
			}
			for _, ending := range []string{"/", "=new", ">new", ">"} {
				e := entryAt(path + ending)
				put, isPut := plainPut(list, e)
				putIs(t, list, e, put, isPut)
				if isPut && plainFind(list, e.Path) < 0 {
					cutIs(t, put, e.Path, list, true)
				}
			}
		}
	})
	if trees < 300 {
		t.Error("trees:", trees)
	}
}

type treeMaker struct{ *rand.Rand }

func (m treeMaker) entry(names string, deep int) impl.Entry {
	path := []string{}
	for range 1 + m.Intn(deep) {
		path = append(path, strings.Fields(names)[m.Intn(len(strings.Fields(names)))])
	}
	return entryAt(strings.Join(path, "/") + []string{"/", "/", "/", "=x", "*", ">yy", "=" + strings.Repeat("z", m.Intn(300))}[m.Intn(7)])
}

func (m treeMaker) tree(most int) []impl.Entry {
	list := []impl.Entry{}
	for range m.Intn(most + 1) {
		list, _ = plainPut(list, m.entry("a b a- a.b c", 4))
	}
	return list
}

// Lists that are nearly trees: one part of a tree is made another one, or two entries change places.
func TestTreesByChance(t *testing.T) {
	m := treeMaker{rand.New(rand.NewSource(10))}
	seen := map[bool]int{}
	for range 20000 {
		list := m.tree(12)
		if len(list) == 0 {
			continue
		}
		at, other := m.Intn(len(list)), m.Intn(len(list))
		switch m.Intn(8) {
		case 0:
			list[at], list[other] = list[other], list[at]
		case 1:
			list[at].Kind = int64(m.Intn(5))
		case 2:
			list[at].Exec = !list[at].Exec
		case 3:
			list[at].Data = ""
		case 4:
			list[at].Path += []string{"/", "0", "/a", "//a", "-", " "}[m.Intn(6)]
		case 5:
			list = slices.Delete(list, at, at+1)
		case 6:
			list = slices.Insert(list, at, m.entry("a b c", 3))
		}
		can := plainTreeOk(list)
		seen[can]++
		treeCan(t, fmt.Sprintf("%+v", list), list, can)
	}
	if seen[true] < 3000 || seen[false] < 3000 {
		t.Error(seen)
	}
}

// A row of puts and cuts is as one in plain words.
func TestTreesStepByStep(t *testing.T) {
	m := treeMaker{rand.New(rand.NewSource(11))}
	for range 60 {
		list := []impl.Entry{}
		for range 100 {
			e := m.entry("a b a- a.b c", 4)
			if m.Intn(4) == 0 {
				want, ok := plainCut(list, e.Path)
				cutIs(t, list, e.Path, want, ok)
				list, _ = impl.CutEntry(list, e.Path)
				continue
			}
			want, ok := plainPut(list, e)
			putIs(t, list, e, want, ok)
			list, _ = impl.PutEntry(list, e)
		}
	}
}

func TestPackTree(t *testing.T) {
	for list, want := range map[string]string{
		"": "LAR1\x00", "a/": "LAR1\x01\x01\x01a\x00", "a=": "LAR1\x01\x02\x01a\x00", "a*": "LAR1\x01\x12\x01a\x00", "a>b": "LAR1\x01\x03\x01a\x01b",
		"a/ a/b=hi c>d": "LAR1\x03\x01\x01a\x00\x02\x03a/b\x02hi\x03\x01c\x01d",
	} {
		if got := impl.PackTree(entriesOf(list)); string(got) != want {
			t.Errorf("%q is packed as %q, not as %q", list, got, want)
		}
	}
	for size, number := range map[int]string{0: "\x00", 1: "\x01", 127: "\x7f", 128: "\x80\x01", 129: "\x81\x01", 255: "\xff\x01", 256: "\x80\x02", 16383: "\xff\x7f", 16384: "\x80\x80\x01", 16385: "\x81\x80\x01", 20000: "\xa0\x9c\x01"} {
		data := strings.Repeat("d", size)
		list := []impl.Entry{{Path: "f", Kind: 2, Data: data, Exec: true}}
		if got := impl.PackTree(list); string(got) != "LAR1\x01\x12\x01f"+number+data {
			t.Errorf("Data of %d bytes is packed as %.20q", size, got)
		}
		treeCan(t, fmt.Sprint(size, " bytes"), list, true)
	}
	packed := string(impl.PackTree(manyEntries(500)))
	if !strings.HasPrefix(packed, "LAR1\xf4\x03\x02\x05f0000\x01x\x02\x05f0001\x01x") || len(packed) != 6+500*9 {
		t.Errorf("500 entries are packed as %.40q", packed)
	}
	long := strings.Repeat("p", 60)
	list := []impl.Entry{{Path: long, Kind: 1}, {Path: long + "/" + long, Kind: 1}, {Path: long + "/" + long + "/" + long[:6], Kind: 3, Data: "x"}}
	if got := string(impl.PackTree(list)); !strings.HasSuffix(got, "\x03\x80\x01"+list[2].Path+"\x01x") {
		t.Errorf("a Path of 128 bytes is packed as %q", got)
	}
}

// unpacks holds an answer against plain words, and tells whether there is a tree.
func unpacks(t *testing.T, b []byte) bool {
	t.Helper()
	want, ok := plainUnpack(b)
	got, isRead := impl.UnpackTree(b)
	if isRead != ok || ok && !slices.Equal(got, want) || !ok && len(got) > 0 {
		t.Fatalf("%.200q is unpacked as %.200q %v, not as %.200q %v", b, shownEntries(got), isRead, shownEntries(want), ok)
	}
	if ok && !bytes.Equal(impl.PackTree(got), b) {
		t.Fatalf("%.200q are not the bytes of what is read", b)
	}
	return ok
}

func TestUnpackTreeOfOtherBytes(t *testing.T) {
	wide := "w=" + strings.Repeat("w", 200)
	for _, list := range []string{"", "a/", "a=", manyKinds, "a/ a/b*hi c>a/b", wide, "a/ a/" + wide + " b>x"} {
		packed := impl.PackTree(entriesOf(list))
		if !unpacks(t, packed) {
			t.Fatalf("%.80q is not unpacked", list)
		}
		for end := range packed {
			if unpacks(t, packed[:end]) {
				t.Fatalf("%.80q is unpacked though cut at %d", list, end)
			}
		}
		for _, behind := range []string{"\x00", "\x01", "x", "\x80", "LAR1\x00", "\x02\x01z\x00"} {
			if unpacks(t, append(slices.Clone(packed), behind...)) {
				t.Fatalf("%.80q is unpacked with %q behind", list, behind)
			}
		}
		if unpacks(t, append([]byte{0}, packed...)) || unpacks(t, append([]byte("LAR1"), packed...)) {
			t.Fatalf("%.80q is unpacked with bytes ahead", list)
		}
		for at := range packed {
			for _, other := range allBytes() {
				one := slices.Clone(packed)
				one[at] = other
				unpacks(t, one)
			}
			unpacks(t, slices.Delete(slices.Clone(packed), at, at+1))
			unpacks(t, slices.Insert(slices.Clone(packed), at, packed[at]))
		}
	}
	for _, s := range []string{"", "L", "LAR", "LAR1", "LAR0\x00", "LAR2\x00", "lar1\x00", "LAR 1\x00", "LAR10", "\x00LAR1"} {
		if unpacks(t, []byte(s)) {
			t.Errorf("%q is unpacked", s)
		}
	}
}

func TestUnpackTreeWithOtherNumbers(t *testing.T) {
	shape := func(count, path, data string) []byte {
		return []byte("LAR1" + count + "\x02" + path + "a" + data + "x")
	}
	if !unpacks(t, shape("\x01", "\x01", "\x01")) {
		t.Error("a tree is not unpacked")
	}
	others := []string{"\x81\x00", "\x81\x80\x00", "\x81\x80\x80\x00", "\x81" + strings.Repeat("\x80", 8) + "\x00", "\x81" + strings.Repeat("\x80", 9) + "\x00", "\x81" + strings.Repeat("\x80", 9) + "\x02", "\x81" + strings.Repeat("\x80", 30) + "\x00",
		"\x81" + strings.Repeat("\x80", 8) + "\x01", "\x81" + strings.Repeat("\x80", 3) + "\x10", "\x81" + strings.Repeat("\x80", 4) + "\x01", strings.Repeat("\xff", 9) + "\x01", strings.Repeat("\xff", 8) + "\x7f", strings.Repeat("\xff", 40), strings.Repeat("\x80", 40), "\xff\xff\xff\xff\x07", "\x80\x00", "\x00", "\x02", "\x7f", "\xf5\x03", "\xa1\x9c\x01"}
	for _, other := range others {
		for _, b := range [][]byte{shape(other, "\x01", "\x01"), shape("\x01", other, "\x01"), shape("\x01", "\x01", other)} {
			if unpacks(t, b) {
				t.Errorf("%q is unpacked", b)
			}
		}
	}
	if unpacks(t, []byte("LAR1\x80\x00")) || unpacks(t, []byte("LAR1\x80\x80\x80\x80\x80\x80\x80\x80\x80\x80\x00")) {
		t.Error("the empty tree is unpacked from a number with more groups than needed")
	}
	wide := strings.Repeat("w", 200)
	if !unpacks(t, []byte("LAR1\x01\x02\x01a\xc8\x01"+wide)) || unpacks(t, []byte("LAR1\x01\x02\x01a\xc8\x81\x00"+wide)) {
		t.Error("a number of two groups is not told from one of three")
	}
	for kind := range 256 {
		b := []byte("LAR1\x01" + string([]byte{byte(kind)}) + "\x01a\x01x")
		if unpacks(t, b) != (kind == 2 || kind == 3 || kind == 18) {
			t.Errorf("with Data and the Kind %d: %v", kind, unpacks(t, b))
		}
		b = []byte("LAR1\x01" + string([]byte{byte(kind)}) + "\x01a\x00")
		if unpacks(t, b) != (kind == 1 || kind == 2 || kind == 18) {
			t.Errorf("without Data and with the Kind %d: %v", kind, unpacks(t, b))
		}
	}
}

func TestUnpackTreeOfWhatIsNone(t *testing.T) {
	for _, list := range [][]impl.Entry{
		manyEntries(501), manyEntries(1000), entriesOf("b= a="), entriesOf("a= a="), entriesOf("a/b="), entriesOf("a= a/b="), entriesOf("a>"), entriesOf("=x"), entriesOf("a//"),
		{{Path: "a", Kind: 2, Data: strings.Repeat("x", 20001)}}, {{Path: "a", Kind: 3, Data: strings.Repeat("x", 20001)}}, {{Path: strings.Repeat("a", 61), Kind: 2}}, {{Path: "a", Kind: 1, Data: "x"}}, {{Path: "a", Kind: 1, Exec: true}}, {{Path: "a", Kind: 3, Data: "x", Exec: true}},
	} {
		if got, ok := impl.UnpackTree(plainPack(list)); ok || len(got) > 0 {
			t.Errorf("%.80q is unpacked as %.80q %v", plainPack(list), shownEntries(got), ok)
		}
	}
	if !unpacks(t, plainPack(manyEntries(500))) {
		t.Error("500 entries are not unpacked")
	}
}

// Of all short rows of bytes behind the first four, those are unpacked that are the bytes of a tree.
func TestUnpackTreeOfEveryShortRow(t *testing.T) {
	read := 0
	everyText("\x00\x01\x02\x03\x12a/\x80", 6, func(s string) {
		if unpacks(t, []byte("LAR1"+s)) {
			read++
		}
	})
	if read < 10 {
		t.Error("read:", read)
	}
}

func TestUnpackTreeByChance(t *testing.T) {
	m := treeMaker{rand.New(rand.NewSource(12))}
	seen := map[bool]int{}
	for range 20000 {
		packed := impl.PackTree(m.tree(10))
		for range m.Intn(3) {
			at := m.Intn(len(packed))
			switch m.Intn(4) {
			case 0:
				packed[at] = byte(m.Intn(256))
			case 1:
				packed = slices.Insert(packed, at, byte(m.Intn(256)))
			case 2:
				packed = slices.Delete(packed, at, at+1)
			case 3:
				packed[at]++
			}
			if len(packed) == 0 {
				break
			}
		}
		seen[unpacks(t, packed)]++
	}
	if seen[true] < 5000 || seen[false] < 5000 {
		t.Error(seen)
	}
}

func TestTreeSum(t *testing.T) {
	if got := impl.TreeSum(nil); got != impl.Word32(impl.Sum([]byte("LAR1\x00"))) {
		t.Errorf("the sum of the empty tree is %q", got)
	}
	seen := map[string]string{}
	everyTree(strings.Fields("a a/b a/c b c"), nil, func(list []impl.Entry) {
		got := impl.TreeSum(list)
		if !plainTreeOk(list) {
			if got != "" {
				t.Fatalf("%q is no tree, and its sum is %q", shownEntries(list), got)
			}
			return
		}
		if other, isThere := seen[got]; isThere || !plainWords13.MatchString(got) {
			t.Fatalf("%q has the sum %q, as %q", shownEntries(list), got, other)
		}
		seen[got] = shownEntries(list)
	})
	if impl.TreeSum(entriesOf("a=x")) == impl.TreeSum(entriesOf("a*x")) || impl.TreeSum(entriesOf("a=x")) == impl.TreeSum(entriesOf("a>x")) {
		t.Error("unlike trees have one sum")
	}
}

func refsAre(t *testing.T, what string, list []impl.Entry, among []string, want ...string) {
	t.Helper()
	if got := impl.RefsIn(list, among); !slices.Equal(got, want) {
		t.Errorf("%s: %.200q, not %.200q", what, got, want)
	}
}

func TestRefsIn(t *testing.T) {
	one, two, three := oneAddress, twoAddress, threeAddress
	holds := func(data string) []impl.Entry { return []impl.Entry{{Path: "f", Kind: 2, Data: data}} }
	among := []string{one, two, three}
	for _, row := range []struct {
		what, data string
		stands     bool
	}{
		{"nothing", "", false}, {"a whole address", one, true}, {"just the word", one[:13], true}, {"12 bytes", one[:12], false}, {"the last 12 bytes", one[1:13], false}, {"12 bytes and others", one[:12] + "?", false},
		{"at the very end", "xx" + one[:13], true}, {"one byte cut at the very end", "xx" + one[:12], false}, {"at the beginning", one[:13] + "xx", true}, {"in the middle", "\xff\n" + one[:13] + "\x00", true},
		{"within a longer word", one[:12] + one[:13] + one[:13], true}, {"within letters", "0" + one[:13] + "0", true}, {"another name", one[:13] + "-other", true}, {"great letters", strings.ToUpper(one), false}, {"a blank within", one[:6] + " " + one[6:], false}, {"the name alone", one[13:], false},
		{"late", strings.Repeat(one[:12]+"-", 1537) + one[:13] + "1234", true},
	} {
		want := []string{}
		if row.stands {
			want = append(want, one)
		}
		refsAre(t, row.what, holds(row.data), among, want...)
	}
	ascending := slices.Sorted(slices.Values(among))
	refsAre(t, "all of them", holds(one+two+three), among, ascending...)
	refsAre(t, "all of them, each in an entry", []impl.Entry{{Path: "a", Kind: 3, Data: three}, {Path: "b", Kind: 2, Data: one, Exec: true}, {Path: "c", Kind: 1}, {Path: "c/d", Kind: 2, Data: two}}, among, ascending...)
	refsAre(t, "one twice in the list", holds(one+two), []string{two, one, two, one, one}, slices.Sorted(slices.Values([]string{one, two}))...)
	refsAre(t, "two with one word", holds(one[:13]), []string{one[:13] + "-b", one[:13] + "-a", two}, one[:13]+"-a", one[:13]+"-b")
	refsAre(t, "parted between two entries", []impl.Entry{{Path: "a", Kind: 2, Data: one[:7]}, {Path: "b", Kind: 2, Data: one[7:]}}, among)
	refsAre(t, "in a Path alone", []impl.Entry{{Path: one, Kind: 1}, {Path: one + "/" + two, Kind: 2, Data: three}}, among, three)
	refsAre(t, "the empty tree", nil, among)
	refsAre(t, "an empty list", holds(one), nil)
	refsAre(t, "no tree", []impl.Entry{{Path: "b", Kind: 2, Data: one}, {Path: "a", Kind: 2}}, among)
	others := []string{"", "x", one[:13], one[:13] + "-", one[:12], one[:12] + "-one", strings.ToUpper(one), "z" + one[1:], one[:13] + "_one", one[:13] + "-.one", one[:13] + "-o/e", one + "\n", " " + one, strings.Repeat("0", 5000)}
	refsAre(t, "what is no address", holds(strings.Join(others, "")), append(others, two))
	refsAre(t, "what is no address, beside one", holds("zz"+strings.Join(others, "")), append(others, one), one)
}

func TestRefsInAmongMany(t *testing.T) {
	many := []string{}
	for i := range 2001 {
		many = append(many, impl.Address("out", fmt.Sprintf("n%d", i), nil))
	}
	list := []impl.Entry{{Path: "f", Kind: 2, Data: many[1999] + many[7]}}
	refsAre(t, "MaxMany", list, many[:2000], slices.Sorted(slices.Values([]string{many[1999], many[7]}))...)
	refsAre(t, "MaxMany and one more", list, many)
	refsAre(t, "one that is there MaxMany times", list, slices.Repeat(many[7:8], 2000), many[7])
	refsAre(t, "and once more", list, slices.Repeat(many[7:8], 2001))
	refsAre(t, "no addresses, and one more", list, append(make([]string, 2000), many[7]))
}

func TestRefsInByChance(t *testing.T) {
	m := rand.New(rand.NewSource(13))
	pool := []string{"000000000000a-x", "00000000000a0-x", "0000000000000-x", "0000000000000-y", "000000000000b-y", "h000000000000-x", "a000000000000-z", "0000000000000"}
	found := 0
	for range 20000 {
		list := []impl.Entry{}
		for i := range m.Intn(3) {
			data := make([]byte, m.Intn(40))
			for at := range data {
				data[at] = "000000000000000000ab-x"[m.Intn(22)]
			}
			list = append(list, impl.Entry{Path: fmt.Sprint(i), Kind: 2, Data: string(data)})
		}
		among := []string{}
		for range m.Intn(6) {
			among = append(among, pool[m.Intn(len(pool))])
		}
		want := plainRefs(list, among)
		found += len(want)
		refsAre(t, fmt.Sprintf("%+v among %q", list, among), list, among, want...)
	}
	if found < 1000 {
		t.Error("found:", found)
	}
}

func TestReplace(t *testing.T) {
	one, two := oneAddress, twoAddress
	becomes := func(what, data, want string) {
		t.Helper()
		for kind := int64(2); kind <= 3; kind++ {
			e := impl.Entry{Path: "f", Kind: kind, Data: data}
			got := impl.Replace([]impl.Entry{e}, one, two)
			if !slices.Equal(got, []impl.Entry{{Path: "f", Kind: kind, Data: want}}) {
				t.Errorf("%s: %q becomes %+v, not %q", what, data, got, want)
			}
		}
	}
	becomes("nothing", "x", "x")
	becomes("one place", "x"+one+"x", "x"+two+"x")
	becomes("it alone", one, two)
	becomes("places beside each other", one+one+one, two+two+two)
	becomes("places with others between", one+"-"+two+one+"\x00"+one, two+"-"+two+two+"\x00"+two)
	becomes("its word alone", one[:13]+"-", one[:13]+"-")
	becomes("its word with another name", one[:13]+"-two", one[:13]+"-two")
	becomes("nearly", one[:len(one)-1]+one[1:], one[:len(one)-1]+one[1:])
	becomes("a longer name", one+"-more", two+"-more")
	becomes("what it becomes", two, two)

	word := strings.Repeat("0", 13)
	from, to := word+"-"+word, word+"-"+strings.Repeat("1", 13)
	for data, want := range map[string]string{
		from + "-" + word: to + "-" + word, word + "-" + from: to + "-" + word, from + "-" + word + "-" + word: to + "-" + to, "0" + from: "0" + to, from + "0": to + "0", from + from: to + to, from[1:]: from[1:], word + word + "-" + word: word + to,
	} {
		got := impl.Replace([]impl.Entry{{Path: "f", Kind: 2, Data: data}}, from, to)
		if len(got) != 1 || got[0].Data != want {
			t.Errorf("%q becomes %+v, not %q", data, got, want)
		}
		if back := impl.Replace(got, from, from); !slices.Equal(back, got) {
			t.Errorf("%+v in its own place becomes %+v", got, back)
		}
	}
	list := []impl.Entry{{Path: "a", Kind: 2, Data: one + two, Exec: true}, {Path: one, Kind: 1}, {Path: one + "/" + one, Kind: 3, Data: "../" + one}}
	sort.Slice(list, func(i, j int) bool { return list[i].Path < list[j].Path })
	got := impl.Replace(list, one, two)
	if !slices.Equal(got, plainReplace(list, one, two)) || !plainTreeOk(got) || plainFind(got, one+"/"+one) < 0 {
		t.Errorf("%+v becomes %+v", list, got)
	}
	if back := impl.Replace([]impl.Entry{{Path: "f", Kind: 2, Data: strings.Repeat("x", 20000-len(one)) + one}}, one, two); len(back) != 1 || !strings.HasSuffix(back[0].Data, "x"+two) || len(back[0].Data) != 20000 {
		t.Error("Data of MaxData bytes is not replaced")
	}
	if got := impl.Replace(nil, one, two); len(got) > 0 {
		t.Error("the empty tree becomes", got)
	}
}

func TestReplaceOfWhatIsNone(t *testing.T) {
	one, two, three := oneAddress, twoAddress, threeAddress
	list := []impl.Entry{{Path: "f", Kind: 2, Data: one + " x " + three + one[:13] + "-"}}
	for _, pair := range [][]string{
		{one, three}, {three, one}, {one, two + "x"}, {one[:13], two[:13]}, {"", ""}, {"x", "y"}, {one, strings.ToUpper(two)}, {strings.ToUpper(one), two}, {one[:13] + "-", two[:13] + "-"},
		{one, "z" + two[1:]}, {"z" + one[1:], two}, {one, two[:13] + "-.wo"}, {one[:13] + "-.ne", two}, {one, two[:13] + "_two"}, {one, two[:13] + "-t/o"}, {one, ""}, {"", one}, {" x ", " y "},
	} {
		if got := impl.Replace(list, pair[0], pair[1]); len(got) > 0 {
			t.Errorf("%q for %q gives %+v", pair[1], pair[0], got)
		}
	}
	if got := impl.Replace(entriesOf("b= a="), one, two); len(got) > 0 {
		t.Error("what is no tree becomes", got)
	}
}

func TestReplaceByChance(t *testing.T) {
	m := rand.New(rand.NewSource(14))
	word := strings.Repeat("0", 13)
	for range 5000 {
		data := ""
		for range m.Intn(8) {
			data += []string{"0", word, "-", word + "-" + word, "1", word + "-"}[m.Intn(6)]
		}
		list := []impl.Entry{{Path: "f", Kind: 2, Data: data}}
		for _, to := range []string{word + "-" + word, word + "-1" + word[1:], "1" + word[1:] + "-" + word} {
			if got, want := impl.Replace(list, word+"-"+word, to), plainReplace(list, word+"-"+word, to); !slices.Equal(got, want) {
				t.Fatalf("%q becomes %+v, not %+v", data, got, want)
			}
		}
	}
}

func TestTheGreatestTree(t *testing.T) {
	list := []impl.Entry{}
	for i := range 500 {
		list = append(list, impl.Entry{Path: fmt.Sprintf("f%03d", i), Kind: 2, Data: strings.Repeat(oneAddress[:12], 1700)[:20000]})
	}
	list[499].Data = list[499].Data[:20000-13] + twoAddress[:13]
	many := []string{}
	for i := range 2000 {
		many = append(many, impl.Address("out", fmt.Sprintf("n%d", i), nil))
	}
	many[1000] = twoAddress
	refsAre(t, "the greatest tree", list, many, twoAddress)
	packed := impl.PackTree(list)
	if got, ok := impl.UnpackTree(packed); !ok || !slices.Equal(got, list) {
		t.Error("it is not unpacked")
	}
}

func TestTreesAreNewMemory(t *testing.T) {
	one, two := oneAddress, twoAddress
	whole := append(entriesOf(manyKinds), impl.Entry{Path: "c", Kind: 2, Data: "x" + one + "x"})
	for what, given := range map[string][]impl.Entry{"a tree": whole, "no tree": append(slices.Clone(whole), whole[0])} {
		list, stays := roomyAll(given)
		among, amongStays := roomyAll([]string{two, "x", one, one})
		packed, packedStays := roomyAll(plainPack(given))
		for name, call := range map[string]func() any{
			"TreeOk":                 func() any { return impl.TreeOk(list) },
			"FindEntry":              func() any { return impl.FindEntry(list, "a/b") },
			"PutEntry, a new one":    func() any { put, _ := impl.PutEntry(list, entryAt("b0=x")); return put },
			"PutEntry, at the end":   func() any { put, _ := impl.PutEntry(list, entryAt("z=x")); return put },
			"PutEntry, in place":     func() any { put, _ := impl.PutEntry(list, entryAt("a/e=new")); return put },
			"PutEntry, in last one":  func() any { put, _ := impl.PutEntry(list, entryAt("c=new")); return put },
			"PutEntry, refused":      func() any { put, _ := impl.PutEntry(list, entryAt("a=x")); return put },
			"CutEntry":               func() any { left, _ := impl.CutEntry(list, "a"); return left },
			"CutEntry, the last one": func() any { left, _ := impl.CutEntry(list, "c"); return left },
			"CutEntry, of nothing":   func() any { left, _ := impl.CutEntry(list, "q"); return left },
			"Below":                  func() any { return impl.Below(list, "a") },
			"PackTree":               func() any { return impl.PackTree(list) },
			"UnpackTree":             func() any { read, _ := impl.UnpackTree(packed); return read },
			"TreeSum":                func() any { return impl.TreeSum(list) },
			"RefsIn":                 func() any { return impl.RefsIn(list, among) },
			"Replace":                func() any { return impl.Replace(list, one, two) },
			"Replace of nothing":     func() any { return impl.Replace(list, two, one) },
		} {
			answer := call()
			if !isNew(answer, list, among, packed, one, two) {
				t.Errorf("%s of %s shares memory with an argument", name, what)
			}
			before := fmt.Sprintf("%q", answer)
			for _, other := range []string{"", "a/ a/b=other", manyKinds} {
				otherTree := entriesOf(other)
				impl.PutEntry(otherTree, entryAt("a/c=x"))
				impl.CutEntry(otherTree, "a/b")
				impl.Below(otherTree, "a")
				impl.UnpackTree(impl.PackTree(otherTree))
				impl.RefsIn(otherTree, []string{two, one})
				impl.Replace(otherTree, one, two)
			}
			later := call()
			if fmt.Sprintf("%q", answer) != before || !same(answer, later) || !isNew([]any{answer, later}) {
				t.Errorf("%s of %s is changed by a later call, or is another one", name, what)
			}
			if !stays() || !amongStays() || !packedStays() {
				t.Fatalf("%s writes into an argument", name)
			}
		}
	}
	e := entryAt("z=" + strings.Repeat("long", 10))
	if put, ok := impl.PutEntry(whole, e); !ok || !isNew(put, whole, []impl.Entry{e}) {
		t.Error("what is put shares memory with the entry that was given")
	}
}
