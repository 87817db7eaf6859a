package tests

import (
	"bytes"
	"fmt"
	"math"
	"math/rand"
	"runtime"
	"slices"
	"strconv"
	"strings"
	"sync"
	"testing"
	"time"

	"loop.example/g00023/impl"
)

// Keys that MakeKey makes of great primes; the tests of keys hold that.
var (
	goodKey  = impl.Key{N: 4611685975477714963, E: 65537, D: 551823266033158481}
	otherKey = impl.Key{N: 100890919, E: 17, D: 35572913}
)

func trusting(name string, k impl.Key) impl.Trust { return impl.Trust{Name: name, N: k.N, E: k.E} }

var goodTrust = []impl.Trust{trusting("k", goodKey)}

func TestKeysOfTheseTests(t *testing.T) {
	if k, ok := impl.MakeKey(2147483647, 2147483629, 65537); !ok || k != goodKey {
		t.Error(k)
	}
	if k, ok := impl.MakeKey(1009, 99991, 17); !ok || k != otherKey {
		t.Error(k)
	}
}

// manifestFor says of bytes what is true of them.
func manifestFor(path string, body []byte, refs []string) impl.Manifest {
	return impl.Manifest{Path: path, Sum: impl.Word32(impl.Sum(body)), Size: int64(len(body)), Refs: refs}
}

func offered(mirror string, m impl.Manifest, body []byte) impl.Offer {
	return impl.Offer{Mirror: mirror, Manifest: plainManifestText(plainSignManifest(m, "k", goodKey)), Body: body}
}

// offerAt makes "1:23" an offer of 1, of which the tree holds the words of 2 and 3, and refers to both; "1:23/2" one that refers to 2 alone, "1:23/" one that says it refers to nothing.
func offerAt(mirror string, word string) impl.Offer {
	name, letters, _ := strings.Cut(word, ":")
	inTree, named, isNamed := strings.Cut(letters, "/")
	if !isNamed {
		named = inTree
	}
	refs := pathsAt(strings.Join(strings.Split(named, ""), " "))
	slices.Sort(refs)
	return offerWith(mirror, pathAt(name), treeAt(inTree), slices.Compact(refs))
}

func offerWith(mirror string, path string, tree []impl.Entry, refs []string) impl.Offer {
	body := plainPack(tree)
	return offered(mirror, manifestFor(path, body, refs), body)
}

// offersOf makes one for each word; the mirrors are m0, m1 and so on.
func offersOf(row string) []impl.Offer {
	offers := []impl.Offer{}
	for number, word := range strings.Fields(row) {
		offers = append(offers, offerAt(fmt.Sprint("m", number), word))
	}
	return offers
}

func wholeManifest() impl.Manifest {
	return impl.Manifest{Path: pathAt("1"), Sum: "0123456789abc", Size: 4096, Refs: pathsAt("1 2 3"), Key: "cache.example-1", Sig: 123456789}
}

const wholeManifestText = "path 1111111111111-1\nsum 0123456789abc\nsize 4096\nref 1111111111111-1\nref 2222222222222-2\nref 3333333333333-3\nkey cache.example-1\nsig 00000003mpk8m\n"

func changedManifest(change func(m *impl.Manifest)) impl.Manifest {
	m := wholeManifest()
	change(&m)
	return m
}

func manyRefs(n int) []string {
	refs := []string{}
	for i := range n {
		refs = append(refs, impl.Word32(uint64(i))+"-r")
	}
	return refs
}

func manifestTextIs(t *testing.T, what string, m impl.Manifest, want string) {
	t.Helper()
	if plain := plainManifestText(m); plain != want {
		t.Errorf("%s: plain words: %.300q, not %.300q", what, plain, want)
	}
	if got := impl.ManifestText(m); got != want {
		t.Errorf("%s: %.300q, not %.300q", what, got, want)
	}
	if want == "" {
		return
	}
	if got, ok := impl.ReadManifest(want); !ok || !same(got, m) {
		t.Errorf("%s: read as %.300q %v", what, fmt.Sprint(got), ok)
	}
}

func TestManifestText(t *testing.T) {
	manifestTextIs(t, "the whole", wholeManifest(), wholeManifestText)
	least := impl.Manifest{Path: "0000000000000-a", Sum: "0000000000000", Key: "k"}
	manifestTextIs(t, "the least", least, "path 0000000000000-a\nsum 0000000000000\nsize 0\nkey k\nsig 0000000000000\n")
	least.Sig, least.Size, least.Sum = math.MaxUint64, 1, "gzzzzzzzzzzzz"
	manifestTextIs(t, "the greatest words", least, "path 0000000000000-a\nsum gzzzzzzzzzzzz\nsize 1\nkey k\nsig gzzzzzzzzzzzz\n")
	for what, m := range map[string]impl.Manifest{
		"no Refs":                    changedManifest(func(m *impl.Manifest) { m.Refs = nil }),
		"one of Refs":                changedManifest(func(m *impl.Manifest) { m.Refs = pathsAt("2") }),
		"Refs with one word":         changedManifest(func(m *impl.Manifest) { m.Refs = pathsAt("1 1b") }),
		"as many Refs as can be":     changedManifest(func(m *impl.Manifest) { m.Refs = manyRefs(300) }),
		"a Size of 0":                changedManifest(func(m *impl.Manifest) { m.Size = 0 }),
		"a Size of MaxBytes":         changedManifest(func(m *impl.Manifest) { m.Size = 1000000 }),
		"a Size of MaxBytes less 1":  changedManifest(func(m *impl.Manifest) { m.Size = 999999 }),
		"a Key of 60 bytes":          changedManifest(func(m *impl.Manifest) { m.Key = strings.Repeat("k", 60) }),
		"a Key that is key":          changedManifest(func(m *impl.Manifest) { m.Key = "key" }),
		"a Path with a long name":    changedManifest(func(m *impl.Manifest) { m.Path = wordAt("1") + "-" + strings.Repeat("n", 60) }),
		"a Path with the name key":   changedManifest(func(m *impl.Manifest) { m.Path = wordAt("1") + "-key" }),
		"a Ref with a long name":     changedManifest(func(m *impl.Manifest) { m.Refs[2] = wordAt("3") + "-" + strings.Repeat("n", 60) }),
		"a Sig of 0":                 changedManifest(func(m *impl.Manifest) { m.Sig = 0 }),
		"a Sig that no key can make": changedManifest(func(m *impl.Manifest) { m.Sig = math.MaxUint64 }),
	} {
		if impl.ManifestText(m) == "" {
			t.Error("no text:", what)
		}
		manifestTextIs(t, what, m, plainManifestText(m))
	}
}

// wrongHeads are the faults of what is signed, each alone.
func wrongHeads() map[string]func(m *impl.Manifest) {
	return map[string]func(m *impl.Manifest){
		"an empty Path":                func(m *impl.Manifest) { m.Path = "" },
		"a Path that is a word":        func(m *impl.Manifest) { m.Path = wordAt("1") },
		"a Path without a name":        func(m *impl.Manifest) { m.Path = wordAt("1") + "-" },
		"a Path that is a name":        func(m *impl.Manifest) { m.Path = "one" },
		"a Path with a long name":      func(m *impl.Manifest) { m.Path = wordAt("1") + "-" + strings.Repeat("n", 61) },
		"a Path with another letter":   func(m *impl.Manifest) { m.Path = "111111111111e-1" },
		"a Path with a high letter":    func(m *impl.Manifest) { m.Path = "h111111111111-1" },
		"a Path with a blank":          func(m *impl.Manifest) { m.Path += " x" },
		"a Path with a newline":        func(m *impl.Manifest) { m.Path += "\n" },
		"a Path with a line":           func(m *impl.Manifest) { m.Path += "\nsum 0123456789abc" },
		"an empty Sum":                 func(m *impl.Manifest) { m.Sum = "" },
		"a Sum that is short":          func(m *impl.Manifest) { m.Sum = m.Sum[:12] },
		"a Sum that is long":           func(m *impl.Manifest) { m.Sum += "0" },
		"a Sum with another letter":    func(m *impl.Manifest) { m.Sum = "0123456789abe" },
		"a Sum with a high letter":     func(m *impl.Manifest) { m.Sum = "h123456789abc" },
		"a Sum with a great letter":    func(m *impl.Manifest) { m.Sum = "0123456789abC" },
		"a Sum with a newline":         func(m *impl.Manifest) { m.Sum = "0123456789ab\n" },
		"a Sum that is an address":     func(m *impl.Manifest) { m.Sum = pathAt("1") },
		"a Size of -1":                 func(m *impl.Manifest) { m.Size = -1 },
		"the least Size":               func(m *impl.Manifest) { m.Size = math.MinInt64 },
		"a Size of MaxBytes and 1":     func(m *impl.Manifest) { m.Size = 1000001 },
		"the greatest Size":            func(m *impl.Manifest) { m.Size = math.MaxInt64 },
		"a Size above 32 bits":         func(m *impl.Manifest) { m.Size = 1 << 32 },
		"Refs with an empty one":       func(m *impl.Manifest) { m.Refs = []string{""} },
		"Refs with an empty one first": func(m *impl.Manifest) { m.Refs = append([]string{""}, m.Refs...) },
		"Refs that are words":          func(m *impl.Manifest) { m.Refs = []string{wordAt("1")} },
		"Refs with a word last":        func(m *impl.Manifest) { m.Refs[2] = wordAt("3") },
		"Refs with a name first":       func(m *impl.Manifest) { m.Refs[0] = "1" },
		"Refs with another letter":     func(m *impl.Manifest) { m.Refs[1] = "222222222222u-2" },
		"Refs with a line":             func(m *impl.Manifest) { m.Refs[1] += "\nref 2222222222223-2" },
		"Refs descending":              func(m *impl.Manifest) { slices.Reverse(m.Refs) },
		"Refs with two turned round":   func(m *impl.Manifest) { m.Refs[1], m.Refs[2] = m.Refs[2], m.Refs[1] },
		"Refs with the first twice":    func(m *impl.Manifest) { m.Refs = pathsAt("1 1 2") },
		"Refs with the last twice":     func(m *impl.Manifest) { m.Refs = pathsAt("1 2 2") },
		"one too many Refs":            func(m *impl.Manifest) { m.Refs = manyRefs(301) },
		"far too many Refs":            func(m *impl.Manifest) { m.Refs = manyRefs(5000) },
	}
}

func TestManifestsThatCanNotBe(t *testing.T) {
	for what, spoil := range wrongHeads() {
		manifestTextIs(t, what, changedManifest(spoil), "")
	}
	for _, name := range noKeys() {
		manifestTextIs(t, "a Key "+name, changedManifest(func(m *impl.Manifest) { m.Key = name }), "")
	}
	manifestTextIs(t, "the zero value", impl.Manifest{}, "")
}

// readsManifest holds an answer against a plain pattern, and tells whether there is a manifest.
func readsManifest(t *testing.T, s string) bool {
	t.Helper()
	want, isManifest := plainReadManifest(s)
	got, ok := impl.ReadManifest(s)
	if ok != isManifest || !same(got, want) {
		t.Fatalf("%.400q is read as %.400q %v, not as %.400q %v", s, fmt.Sprint(got), ok, fmt.Sprint(want), isManifest)
	}
	if ok && impl.ManifestText(got) != s {
		t.Fatalf("%.400q is not the text of what is read", s)
	}
	return ok
}

func TestReadManifestOfOtherTexts(t *testing.T) {
	least := impl.ManifestText(impl.Manifest{Path: "0000000000000-a", Sum: "0000000000000", Key: "k"})
	for _, s := range []string{wholeManifestText, least} {
		if !readsManifest(t, s) {
			t.Fatalf("%q is not read", s)
		}
		for at := range s {
			if readsManifest(t, s[:at]) {
				t.Fatalf("%q is read", s[:at])
			}
			if at > 0 && readsManifest(t, s[at:]) {
				t.Fatalf("%q is read", s[at:])
			}
			readsManifest(t, s[:at]+s[at+1:])
			for _, other := range allBytes() {
				readsManifest(t, s[:at]+string([]byte{other})+s[at+1:])
			}
			for _, other := range "\n\r\t\x00 019az-+.:k" {
				readsManifest(t, s[:at]+string(other)+s[at:])
			}
		}
		for _, behind := range []string{"\n", " ", "x", "\x00", "\r\n", "sig 0000000000000\n", "key k\n", "ref 9999999999999-9\n", "note x\n", s} {
			if readsManifest(t, s+behind) {
				t.Fatalf("%q is read with %q behind", s, behind)
			}
			if readsManifest(t, behind+s) {
				t.Fatalf("%q is read with %q ahead", s, behind)
			}
		}
	}
	for _, s := range []string{"", "\n", " ", "path", "path \n", "key k\nsig 0000000000000\n", "\x00", strings.Repeat("ref 9999999999999-9\n", 3000)} {
		if readsManifest(t, s) {
			t.Errorf("%q is read", s)
		}
	}
}

func TestReadManifestOfOtherLines(t *testing.T) {
	lines := strings.SplitAfter(strings.TrimSuffix(wholeManifestText, "\n"), "\n")
	lines[len(lines)-1] += "\n"
	if strings.Join(lines, "") != wholeManifestText || len(lines) != 8 {
		t.Fatalf("%q", lines)
	}
	for i := range lines {
		isRef := strings.HasPrefix(lines[i], "ref ")
		without := slices.Delete(slices.Clone(lines), i, i+1)
		if readsManifest(t, strings.Join(without, "")) != isRef {
			t.Errorf("without %q", lines[i])
		}
		for j := range lines {
			if readsManifest(t, strings.Join(slices.Insert(slices.Clone(lines), j, lines[i]), "")) {
				t.Errorf("with %q twice", lines[i])
			}
			turned := slices.Clone(lines)
			turned[i], turned[j] = turned[j], turned[i]
			if readsManifest(t, strings.Join(turned, "")) != (i == j) {
				t.Errorf("with %q and %q turned round", lines[i], lines[j])
			}
			moved := slices.Insert(slices.Clone(without), min(j, len(without)), lines[i])
			if readsManifest(t, strings.Join(moved, "")) != (i == min(j, len(without))) {
				t.Errorf("with %q moved to %d", lines[i], j)
			}
		}
		word, rest, _ := strings.Cut(lines[i], " ")
		for _, other := range []string{
			word + "  " + rest, " " + lines[i], word + "\t" + rest, word + rest, word + "\n", word + " \n", word, strings.ToUpper(word) + " " + rest, word + "s " + rest, "x" + lines[i],
			strings.TrimSuffix(lines[i], "\n") + " \n", strings.TrimSuffix(lines[i], "\n") + "\r\n", lines[i] + "\n", "\n" + lines[i], strings.TrimSuffix(lines[i], "\n"), strings.TrimSuffix(lines[i], "\n") + " x\n", "note x\n" + lines[i], "# note\n" + lines[i],
		} {
			changed := slices.Clone(lines)
			changed[i] = other
			if readsManifest(t, strings.Join(changed, "")) {
				t.Errorf("with %q", other)
			}
		}
	}
}

func TestReadManifestOfOtherNumbers(t *testing.T) {
	with := func(old, new string) string {
		if !strings.Contains(wholeManifestText, old) {
			t.Fatalf("%q is not in it", old)
		}
		return strings.Replace(wholeManifestText, old, new, 1)
	}
	for _, size := range []string{"0", "1", "9", "10", "999999", "1000000"} {
		if !readsManifest(t, with("size 4096", "size "+size)) {
			t.Errorf("a size of %s is not read", size)
		}
	}
	for _, size := range []string{"", "00", "01", "04096", "000", "-0", "+0", "-1", "+1", "+4096", "-4096", " 4096", "4096 ", "4_096", "4096.0", "4e3", "0x10", "0b1", "0o7", "1000001", "9999999", "9223372036854775807", "9223372036854775808", "18446744073709551616", "-9223372036854775808", "x", "٤"} {
		if readsManifest(t, with("size 4096", "size "+size)) {
			t.Errorf("a size of %q is read", size)
		}
	}
	for _, word := range []string{"0000000000000", "gzzzzzzzzzzzz", "0000000000001"} {
		if !readsManifest(t, with("sig 00000003mpk8m", "sig "+word)) || !readsManifest(t, with("sum 0123456789abc", "sum "+word)) {
			t.Errorf("%s is not read", word)
		}
	}
	for _, word := range []string{"", "0", "000000000000", "00000000000000", "hzzzzzzzzzzzz", "000000000000e", "000000000000A", "123456789", "-000000000000", "+000000000000", " 000000000000", "000000000000 "} {
		if readsManifest(t, with("sig 00000003mpk8m", "sig "+word)) || readsManifest(t, with("sum 0123456789abc", "sum "+word)) {
			t.Errorf("%q is read", word)
		}
	}
	refs := "ref " + strings.Join(pathsAt("1 2 3"), "\nref ") + "\n"
	for _, n := range []int{0, 1, 2, 299, 300, 301, 302, 2001} {
		lines := ""
		for _, ref := range manyRefs(n) {
			lines += "ref " + ref + "\n"
		}
		if readsManifest(t, with(refs, lines)) != (n <= 300) {
			t.Errorf("%d refs: %v", n, n > 300)
		}
	}
}

type cacheMaker struct{ *rand.Rand }

func (m cacheMaker) one(texts ...string) string { return texts[m.Intn(len(texts))] }

func (m cacheMaker) manifest() impl.Manifest {
	made := impl.Manifest{
		Path: pathAt(m.one("1", "2", "3", "1b", "1key")),
		Sum:  impl.Word32(m.Uint64() >> m.Intn(64)),
		Size: int64(m.Intn(1000001) >> m.Intn(20)),
		Key:  m.one("k", "key", "cache.example-1", "sig"),
		Sig:  m.Uint64() >> m.Intn(64),
	}
	for _, name := range []string{"1", "1b", "2", "3", "a", "g"} {
		if m.Intn(3) == 0 {
			made.Refs = append(made.Refs, pathAt(name))
		}
	}
	return made
}

func TestManifestsByChance(t *testing.T) {
	m := cacheMaker{rand.New(rand.NewSource(20))}
	seen := map[bool]int{}
	for range 10000 {
		made := m.manifest()
		if m.Intn(4) == 0 {
			spoils := []func(){
				func() { made.Path = m.one("", "x", wordAt("1"), pathAt("1")+" ", "z"+pathAt("1")) },
				func() { made.Sum = m.one("", "0", made.Sum+"0", made.Sum[1:], "zzzzzzzzzzzzz") },
				func() { made.Size = int64(m.Uint64()) },
				func() { made.Size = -made.Size },
				func() { made.Refs = append(made.Refs, pathAt("1")) },
				func() { made.Key = m.one("", "a b", ".x", "k\n") },
			}
			spoils[m.Intn(len(spoils))]()
		}
		text := plainManifestText(made)
		manifestTextIs(t, "by chance", made, text)
		if text == "" {
			seen[false]++
			continue
		}
		lines := strings.SplitAfter(text, "\n")
		switch m.Intn(4) {
		case 0:
			m.Shuffle(len(lines), func(i, j int) { lines[i], lines[j] = lines[j], lines[i] })
		case 1:
			at := m.Intn(len(lines))
			lines[at] = m.one("", "\n", "ref "+pathAt("4")+"\n", "size 1\n", "key k\n")
		case 2:
			at := m.Intn(len(text))
			lines = []string{text[:at], string([]byte{byte(m.Intn(128))}), text[at+m.Intn(2):]}
		}
		seen[readsManifest(t, strings.Join(lines, ""))]++
	}
	if seen[true] < 2000 || seen[false] < 2000 {
		t.Error(seen)
	}
}

func signedIs(t *testing.T, what string, m impl.Manifest, name string, k impl.Key) impl.Manifest {
	t.Helper()
	got, want := impl.SignManifest(m, name, k), plainSignManifest(m, name, k)
	if !same(got, want) {
		t.Errorf("%s: %.300q, not %.300q", what, fmt.Sprint(got), fmt.Sprint(want))
	}
	return got
}

func TestSignManifest(t *testing.T) {
	head, _, _ := strings.Cut(wholeManifestText, "key ")
	for _, k := range append(someKeys(t), otherKeys()...) {
		got := signedIs(t, fmt.Sprint(k), wholeManifest(), "name", k)
		want := changedManifest(func(m *impl.Manifest) { m.Key, m.Sig = "name", impl.Sign(k, []byte(head)) })
		if !same(got, want) {
			t.Errorf("%v: %v, not %v", k, got, want)
		}
	}
	for _, k := range someKeys(t) {
		got := impl.SignManifest(wholeManifest(), "name", k)
		if !impl.Check(k.N, k.E, []byte(head), got.Sig) || impl.Check(k.N, k.E, []byte(wholeManifestText), got.Sig) {
			t.Errorf("%v: not the text up to the line key is signed", k)
		}
	}
	// Neither Key nor Sig of the one that is given is signed.
	first := signedIs(t, "the whole", wholeManifest(), "k", goodKey)
	for _, m := range []impl.Manifest{first, changedManifest(func(m *impl.Manifest) { m.Key = "" }), changedManifest(func(m *impl.Manifest) { m.Key, m.Sig = "a b", 0 }), changedManifest(func(m *impl.Manifest) { m.Sig = math.MaxUint64 })} {
		if again := signedIs(t, "signed again", m, "k", goodKey); !same(again, first) {
			t.Errorf("%v, not %v", again, first)
		}
	}
}

// noKeys are texts that are no names, those too that would be further lines of a manifest.
func noKeys() []string {
	return append(noNames(), "..", " ", " k", ":", "/", "a@b", "\x00", "\xff", "\nk", "k\nsig 0000000000000", strings.Repeat("k", 1000))
}

// With a Key that is no name there is no text, so nothing to sign: Key and Sig stay, whatever they were.
func TestSignManifestUnderNoName(t *testing.T) {
	for _, key := range []string{"", "old", "a b", strings.Repeat("k", 61)} {
		for _, sig := range []uint64{0, 9, math.MaxUint64} {
			m := changedManifest(func(m *impl.Manifest) { m.Key, m.Sig = key, sig })
			for _, name := range noKeys() {
				for _, k := range []impl.Key{goodKey, otherKey, {}} {
					if got := signedIs(t, fmt.Sprintf("the name %.80q", name), m, name, k); !same(got, m) {
						t.Errorf("the name %.80q, once %.80q: %.300q", name, key, fmt.Sprint(got))
					}
				}
			}
		}
	}
	for what, spoil := range wrongHeads() {
		m := changedManifest(spoil)
		if got := signedIs(t, what, m, "a b", goodKey); !same(got, m) {
			t.Errorf("%s, under no name: %.300q", what, fmt.Sprint(got))
		}
	}
	if got := impl.SignManifest(impl.Manifest{}, "", goodKey); !same(got, impl.Manifest{}) {
		t.Error(got)
	}
}

// What is signed is the same under each name; with it there is a text, and that is accepted from who has the key under that name alone.
func TestSignManifestUnderNames(t *testing.T) {
	first := impl.SignManifest(wholeManifest(), "k", goodKey)
	for _, name := range []string{"k", "9", "-", "_", "+", "a.", "key", "sig", "-.-", strings.Repeat("q", 59), strings.Repeat("q", 60)} {
		for _, key := range []string{"", "old", "a b", name} {
			m := changedManifest(func(m *impl.Manifest) { m.Key, m.Sig = key, 9 })
			got := signedIs(t, "the name "+name, m, name, goodKey)
			if got.Key != name || got.Sig != first.Sig {
				t.Errorf("the name %q, once %q: %v", name, key, got)
			}
			if read, ok := impl.ReadManifest(impl.ManifestText(got)); !ok || !same(read, got) {
				t.Errorf("the name %q: read as %v %v", name, read, ok)
			}
		}
		body := plainPack(treeAt("2"))
		signed := impl.SignManifest(manifestFor(pathAt("1"), body, pathsAt("2")), name, goodKey)
		o := impl.Offer{Manifest: impl.ManifestText(signed), Body: body}
		acceptIs(t, "signed under "+name, o, pathAt("1"), []impl.Trust{trusting(name, goodKey)}, 0)
		acceptIs(t, "signed under "+name, o, pathAt("1"), []impl.Trust{trusting(name+"x", goodKey)}, 3)
	}
}

// Every byte, alone, behind and ahead of a letter: signed is just what has a text then.
func TestSignManifestUnderEveryByte(t *testing.T) {
	signs := 0
	for _, b := range allBytes() {
		for _, name := range []string{string([]byte{b}), string([]byte{'k', b}), string([]byte{b, 'k'})} {
			m := changedManifest(func(m *impl.Manifest) { m.Key, m.Sig = "old", 9 })
			got := signedIs(t, fmt.Sprintf("the name %q", name), m, name, goodKey)
			m.Key = name
			hasText := impl.ManifestText(m) != ""
			if hasText != impl.NameOk(name) || hasText != (got.Key == name) || hasText == (got.Sig == 9) {
				t.Errorf("the name %q: %q", name, fmt.Sprint(got))
			}
			if hasText {
				signs++
			}
		}
	}
	// A dot is in a name behind the letter alone.
	if want := 3*(26+26+10+3) + 1; signs != want {
		t.Errorf("%d names sign, not %d", signs, want)
	}
}

func TestSignManifestsThatCanNotBe(t *testing.T) {
	for what, spoil := range wrongHeads() {
		m := changedManifest(spoil)
		if got := signedIs(t, what, m, "k", goodKey); !same(got, m) {
			t.Errorf("%s: %.300q", what, fmt.Sprint(got))
		}
	}
	if got := impl.SignManifest(impl.Manifest{}, "k", goodKey); !same(got, impl.Manifest{}) {
		t.Error(got)
	}
	if got := impl.SignManifest(impl.Manifest{Key: "old", Sig: 7}, "k", goodKey); !same(got, impl.Manifest{Key: "old", Sig: 7}) {
		t.Error(got)
	}
}

func acceptIs(t *testing.T, what string, o impl.Offer, path string, keys []impl.Trust, want int64) {
	t.Helper()
	if plain := plainAccept(o, path, keys); plain != want {
		t.Errorf("%s: plain words say %d, not %d", what, plain, want)
	}
	if got := impl.Accept(o, path, keys); got != want {
		t.Errorf("%s: %d, not %d", what, got, want)
	}
}

func TestAccept(t *testing.T) {
	for _, word := range []string{"1:", "1:1", "1:2", "1:123", "1:23/2", "1:23/", "1:1/", "1b:1", "2:1"} {
		name, _, _ := strings.Cut(word, ":")
		acceptIs(t, word, offerAt("m", word), pathAt(name), goodTrust, 0)
	}
	for _, mirror := range []string{"", "m", "no name\n", strings.Repeat("m", 100)} {
		acceptIs(t, "a mirror of any name", offerAt(mirror, "1:"), pathAt("1"), goodTrust, 0)
	}
	for what, tree := range map[string][]impl.Entry{"an empty tree": nil, "a tree of many kinds": entriesOf(manyKinds), "a tree of many entries": manyEntries(500)} {
		acceptIs(t, what, offerWith("m", pathAt("1"), tree, nil), pathAt("1"), goodTrust, 0)
	}
	link := []impl.Entry{{Path: "d", Kind: 1}, {Path: "d/l", Kind: 3, Data: pathAt("2")}}
	acceptIs(t, "a reference in a link", offerWith("m", pathAt("1"), link, pathsAt("2 2b")), pathAt("1"), goodTrust, 0)
	data := ""
	for _, ref := range manyRefs(300) {
		data += ref[:13] + " "
	}
	many := []impl.Entry{{Path: "f", Kind: 2, Data: data}}
	acceptIs(t, "as many references as can be", offerWith("m", pathAt("1"), many, manyRefs(300)), pathAt("1"), goodTrust, 0)
}

func TestAcceptNoManifest(t *testing.T) {
	good := offerAt("m", "1:23")
	for _, text := range []string{"", "\n", "x", good.Manifest + "\n", "\n" + good.Manifest, good.Manifest[1:], good.Manifest[:len(good.Manifest)-1], strings.Replace(good.Manifest, "size ", "size 0", 1), strings.Replace(good.Manifest, "sum ", "sum: ", 1), good.Manifest + good.Manifest} {
		bad := good
		bad.Manifest = text
		acceptIs(t, text, bad, pathAt("1"), goodTrust, 1)
		acceptIs(t, text, bad, "", goodTrust, 1)
	}
	acceptIs(t, "the zero value", impl.Offer{}, "", nil, 1)
	acceptIs(t, "the zero value", impl.Offer{}, pathAt("1"), goodTrust, 1)
}

func TestAcceptOtherPath(t *testing.T) {
	for _, path := range []string{"", "1", wordAt("1"), pathAt("2"), pathAt("1b"), pathAt("1") + " ", pathAt("1") + "\n", " " + pathAt("1"), pathAt("1")[1:]} {
		acceptIs(t, path, offerAt("m", "1:"), path, goodTrust, 2)
		acceptIs(t, path, offerAt("m", "1:"), path, nil, 2)
	}
}

func TestAcceptKeys(t *testing.T) {
	o, path := offerAt("m", "1:2"), pathAt("1")
	good, other := trusting("k", goodKey), trusting("k", otherKey)
	elsewhere := trusting("l", goodKey)
	for _, keys := range [][]impl.Trust{{good}, {good, other}, {other, good}, {other, other, good, other}, {good, good}, {elsewhere, good}, {good, elsewhere}, {{Name: "k"}, {}, good}, {{Name: ""}, {Name: "a b", N: 1}, good}} {
		acceptIs(t, fmt.Sprint(keys), o, path, keys, 0)
	}
	for _, keys := range [][]impl.Trust{
		nil, {other}, {elsewhere}, {other, elsewhere}, {trusting("K", goodKey)}, {trusting("", goodKey)}, {trusting("k ", goodKey)}, {trusting("kk", goodKey)}, {trusting("key", goodKey)}, {{Name: "k"}}, {{Name: "k", N: goodKey.N}}, {{Name: "k", N: goodKey.N, E: goodKey.D}}, {{Name: "k", N: goodKey.N, E: 65539}}, {{Name: "k", N: goodKey.N + 2, E: goodKey.E}}, {{Name: "k", N: 0, E: goodKey.E}}, {{Name: "k", N: 1, E: goodKey.E}}, {{Name: "k", N: math.MaxUint64, E: math.MaxUint64}},
	} {
		acceptIs(t, fmt.Sprint(keys), o, path, keys, 3)
	}
	// What another manifest was signed with is no signature of this one.
	mine, _ := plainReadManifest(o.Manifest)
	theirs, _ := plainReadManifest(offerAt("m", "1:3").Manifest)
	for _, sig := range []uint64{theirs.Sig, 0, 1, mine.Sig + 1, mine.Sig - 1, mine.Sig + goodKey.N, mine.Sig + 2*goodKey.N, goodKey.N, math.MaxUint64} {
		bad := mine
		bad.Sig = sig
		acceptIs(t, fmt.Sprint(sig), impl.Offer{Manifest: plainManifestText(bad), Body: o.Body}, path, goodTrust, 3)
	}
	// A signature of the whole text, or of a part of it, is none.
	head, _, _ := strings.Cut(o.Manifest, "key ")
	for _, text := range []string{o.Manifest, head + "key k\n", head[:len(head)-1], head + "\n", ""} {
		bad := mine
		bad.Sig = impl.Sign(goodKey, []byte(text))
		acceptIs(t, text, impl.Offer{Manifest: plainManifestText(bad), Body: o.Body}, path, goodTrust, 3)
	}
	// The name of the key is not signed: the same signature under another name that is trusted is as good.
	renamed := mine
	renamed.Key = "l"
	acceptIs(t, "another name", impl.Offer{Manifest: plainManifestText(renamed), Body: o.Body}, path, []impl.Trust{elsewhere}, 0)
	acceptIs(t, "another name", impl.Offer{Manifest: plainManifestText(renamed), Body: o.Body}, path, []impl.Trust{good}, 3)
	for _, k := range someKeys(t) {
		signed := plainSignManifest(mine, "k", k)
		acceptIs(t, fmt.Sprint(k), impl.Offer{Manifest: plainManifestText(signed), Body: o.Body}, path, []impl.Trust{trusting("k", k)}, 0)
	}
}

func TestAcceptBytes(t *testing.T) {
	path, body := pathAt("1"), plainPack(treeAt("23"))
	m := manifestFor(path, body, pathsAt("2 3"))
	acceptIs(t, "the bytes", offered("m", m, body), path, goodTrust, 0)
	for _, other := range [][]byte{body[:len(body)-1], append(slices.Clone(body), 0), append(slices.Clone(body), body...), body[1:], nil, {}, make([]byte, len(body)+1)} {
		acceptIs(t, fmt.Sprintf("%d bytes of %d", len(other), len(body)), offered("m", m, other), path, goodTrust, 4)
	}
	for _, size := range []int64{0, 1, m.Size - 1, m.Size + 1, 2 * m.Size, 1000000} {
		other := m
		other.Size = size
		acceptIs(t, fmt.Sprintf("a Size of %d", size), offered("m", other, body), path, goodTrust, 4)
	}
	for _, other := range [][]byte{make([]byte, len(body)), bytes.ToUpper(body), plainPack(treeAt("32")), append([]byte{body[1], body[0]}, body[2:]...)} {
		acceptIs(t, fmt.Sprintf("%q", other), offered("m", m, other), path, goodTrust, 5)
	}
	for _, sum := range []string{"0000000000000", "gzzzzzzzzzzzz", impl.Word32(impl.Sum(body) + 1), impl.Word32(impl.Sum(body) - 1), impl.Word32(impl.Sum(nil)), plainTreeSum(treeAt(""))} {
		other := m
		other.Sum = sum
		acceptIs(t, "the Sum "+sum, offered("m", other, body), path, goodTrust, 5)
	}
	great := append(plainPack(treeAt("")), make([]byte, 1000000)...)
	for _, size := range []int{999999, 1000000} {
		acceptIs(t, fmt.Sprint(size), offered("m", manifestFor(path, great[:size], nil), great[:size]), path, goodTrust, 6)
	}
	one := offered("m", manifestFor(path, great[:1000000], nil), great[:1000001])
	acceptIs(t, "one byte more than can be", one, path, goodTrust, 4)
}

// What was signed is no tree: nothing but the tree is wrong.
func TestAcceptNoTree(t *testing.T) {
	path, body := pathAt("1"), plainPack(treeAt("23"))
	bodies := [][]byte{nil, []byte("LAR1"), []byte("LAR2\x00"), []byte("lar1\x00"), []byte("LAR1\x01"), []byte("LAR1\x80\x00"), []byte("LDT1"), append(slices.Clone(body), 0), body[:len(body)-1], plainPack([]impl.Entry{{Path: "b", Kind: 2}, {Path: "a", Kind: 2}}), plainPack([]impl.Entry{{Path: "d/f", Kind: 2}}), plainPack([]impl.Entry{{Path: "f", Kind: 4}}), plainPack(manyEntries(501))}
	for _, other := range bodies {
		for _, refs := range [][]string{nil, pathsAt("2"), pathsAt("2 3"), pathsAt("9")} {
			acceptIs(t, fmt.Sprintf("%.80q", other), offered("m", manifestFor(path, other, refs), other), path, goodTrust, 6)
		}
	}
}

func TestAcceptRefs(t *testing.T) {
	for refs, want := range map[string]int64{"": 0, "2": 0, "3": 0, "2 3": 0, "2 2b": 0, "2 2b 3 3c": 0, "1": 7, "9": 7, "1 2": 7, "1 2 3": 7, "2 3 4": 7, "2 4": 7, "2 3 g": 7, "2 9 a": 7, "1 1b": 7, "2b": 0} {
		acceptIs(t, refs, offerWith("m", pathAt("1"), treeAt("23"), pathsAt(refs)), pathAt("1"), goodTrust, want)
	}
	for _, data := range []string{"", "222222222222", "222222222222 2", strings.ToUpper(pathAt("a")), "2222222222223"} {
		tree := []impl.Entry{{Path: "f", Kind: 2, Data: data}}
		for _, refs := range []string{"2", "a", "2 a"} {
			acceptIs(t, data, offerWith("m", pathAt("1"), tree, pathsAt(refs)), pathAt("1"), goodTrust, 7)
		}
	}
	// The word in two files' ends, or in a Path, does not stand in Data.
	tree := []impl.Entry{{Path: "2222222222222-2", Kind: 2, Data: "2222222"}, {Path: "3", Kind: 2, Data: "222222"}}
	acceptIs(t, "a word in pieces", offerWith("m", pathAt("1"), tree, pathsAt("2")), pathAt("1"), goodTrust, 7)
}

// faultyOffer has just these faults of Accept, a bit for each.
func faultyOffer(faults int) impl.Offer {
	has := func(code int) bool { return faults>>code&1 == 1 }
	body := plainPack(treeAt("23"))
	if has(6) {
		body[0]++
	}
	m := manifestFor(pathAt("1"), body, pathsAt("2 3"))
	if has(2) {
		m.Path = pathAt("4")
	}
	if has(4) {
		m.Size++
	}
	if has(5) {
		m.Sum = impl.Word32(impl.Sum(body) + 1)
	}
	if has(7) {
		m.Refs = pathsAt("2 3 5")
	}
	m = plainSignManifest(m, "k", goodKey)
	if has(3) {
		m.Sig ^= 1
	}
	text := plainManifestText(m)
	if has(1) {
		text += "\n"
	}
	return impl.Offer{Mirror: fmt.Sprint("m", faults), Manifest: text, Body: body}
}

// firstFault is the lowest bit from 1 on; 0 when there is none.
func firstFault(faults int) int64 {
	for code := 1; code <= 7; code++ {
		if faults>>code&1 == 1 {
			return int64(code)
		}
	}
	return 0
}

func TestTheFirstFaultIsTold(t *testing.T) {
	for faults := range 256 {
		if faults&1 == 0 {
			acceptIs(t, fmt.Sprintf("%b", faults), faultyOffer(faults), pathAt("1"), goodTrust, firstFault(faults))
		}
	}
}

func TestNoChangedByteIsAccepted(t *testing.T) {
	path := pathAt("1")
	for _, word := range []string{"1:", "1:23", "1:1/"} {
		good := offerAt("m", word)
		acceptIs(t, word, good, path, goodTrust, 0)
		for at := range good.Body {
			for _, other := range allBytes() {
				bad := impl.Offer{Manifest: good.Manifest, Body: slices.Clone(good.Body)}
				bad.Body[at] = other
				want := int64(5)
				if other == good.Body[at] {
					want = 0
				}
				acceptIs(t, fmt.Sprintf("byte %d of the body is %d", at, other), bad, path, goodTrust, want)
			}
		}
		for at := range good.Manifest {
			for _, other := range allBytes() {
				bad := impl.Offer{Body: good.Body, Manifest: good.Manifest[:at] + string([]byte{other}) + good.Manifest[at+1:]}
				if code := impl.Accept(bad, path, goodTrust); (code == 0) != (other == good.Manifest[at]) || code != plainAccept(bad, path, goodTrust) {
					t.Fatalf("byte %d of the manifest is %d: %d", at, other, code)
				}
			}
			for _, text := range []string{good.Manifest[:at], good.Manifest[:at] + good.Manifest[at+1:], good.Manifest[:at] + good.Manifest[at:at+1] + good.Manifest[at:]} {
				if code := impl.Accept(impl.Offer{Body: good.Body, Manifest: text}, path, goodTrust); code == 0 {
					t.Fatalf("%q is accepted", text)
				}
			}
		}
	}
}

func fetchOneIs(t *testing.T, path string, offers []impl.Offer, keys []impl.Trust, number int64, codes ...int64) impl.Fetched {
	t.Helper()
	want := plainFetchOne(path, offers, keys)
	if want.Number != number || !same(want.Codes, codes) {
		t.Errorf("plain words: %d %v, not %d %v", want.Number, want.Codes, number, codes)
	}
	got := impl.FetchOne(path, offers, keys)
	if !same(got, want) {
		t.Errorf("%.400q, not %.400q", fmt.Sprint(got), fmt.Sprint(want))
	}
	return got
}

func TestFetchOne(t *testing.T) {
	fetchOneIs(t, pathAt("1"), nil, goodTrust, -1)
	fetchOneIs(t, pathAt("1"), nil, nil, -1)
	fetchOneIs(t, "", nil, nil, -1)
	got := fetchOneIs(t, pathAt("1"), offersOf("1:23"), goodTrust, 0, 0)
	if want := (impl.Fetched{Mirror: "m0", Tree: treeAt("23"), Refs: pathsAt("2 3"), Codes: []int64{0}}); !same(got, want) {
		t.Errorf("%v, not %v", got, want)
	}
	got = fetchOneIs(t, pathAt("3"), offersOf("1:23 2: 3:1/ 3:2 1:"), goodTrust, 2, 2, 2, 0)
	if want := (impl.Fetched{Mirror: "m2", Number: 2, Tree: treeAt("1"), Codes: []int64{2, 2, 0}}); !same(got, want) {
		t.Errorf("%v, not %v", got, want)
	}
	fetchOneIs(t, pathAt("4"), offersOf("1:23 2: 3:1/ 3:2 1:"), goodTrust, -1, 2, 2, 2, 2, 2)
	fetchOneIs(t, pathAt("1"), offersOf("1:23 2: 1:"), nil, -1, 3, 2, 3)
	fetchOneIs(t, pathAt("1"), offersOf("2: 2: 2: 1:"), goodTrust, 3, 2, 2, 2, 0)
	fetchOneIs(t, "", offersOf("1:"), goodTrust, -1, 2)
	faults := []impl.Offer{}
	for code := 7; code > 0; code-- {
		faults = append(faults, faultyOffer(1<<code))
	}
	fetchOneIs(t, pathAt("1"), faults, goodTrust, -1, 7, 6, 5, 4, 3, 2, 1)
	got = fetchOneIs(t, pathAt("1"), append(faults, faultyOffer(0), offerAt("late", "1:")), goodTrust, 7, 7, 6, 5, 4, 3, 2, 1, 0)
	if got.Mirror != "m0" || !same(got.Tree, treeAt("23")) {
		t.Error(got)
	}
	got = fetchOneIs(t, pathAt("4"), append(faults, faultyOffer(0)), goodTrust, 5, 2, 2, 2, 2, 2, 0)
	if got.Mirror != "m4" {
		t.Error(got.Mirror)
	}
	for _, mirror := range []string{"", "any text\n"} {
		if got := fetchOneIs(t, pathAt("1"), []impl.Offer{offerAt(mirror, "1:")}, goodTrust, 0, 0); got.Mirror != mirror {
			t.Errorf("%q, not %q", got.Mirror, mirror)
		}
	}
}

func TestFetchOneOfManyOffers(t *testing.T) {
	offers := slices.Repeat(offersOf("2:"), 2001)
	codes := slices.Repeat([]int64{2}, 2001)
	for _, n := range []int{1, 1999, 2000} {
		fetchOneIs(t, pathAt("1"), offers[:n], goodTrust, -1, codes[:n]...)
		last := append(slices.Clone(offers[:n-1]), offerAt("last", "1:"))
		if got := fetchOneIs(t, pathAt("1"), last, goodTrust, int64(n-1), append(slices.Clone(codes[:n-1]), 0)...); got.Mirror != "last" {
			t.Errorf("%d offers: from %q", n, got.Mirror)
		}
		fetchOneIs(t, pathAt("2"), offers[:n], goodTrust, 0, 0)
	}
	fetchOneIs(t, pathAt("1"), offers, goodTrust, -1)
	fetchOneIs(t, pathAt("2"), offers, goodTrust, -1)
}

func fetchAllIs(t *testing.T, st []impl.Item, paths []string, offers []impl.Offer, keys []impl.Trust, want []impl.Item, lacking []string) {
	t.Helper()
	if plain, lack := plainFetchAll(st, paths, offers, keys); !same(plain, want) || !same(lack, lacking) {
		t.Errorf("plain words: of %.300q %q are there and %q not, not %q and %q", paths, plainPathsIn(plain), lack, plainPathsIn(want), lacking)
	}
	if got, lack := impl.FetchAll(st, paths, offers, keys); !same(got, want) || !same(lack, lacking) {
		t.Errorf("of %.300q %q are there and %q not, not %q and %q:\n%.500q\nnot %.500q", paths, plainPathsIn(got), lack, plainPathsIn(want), lacking, fmt.Sprint(got), fmt.Sprint(want))
	}
}

// In a row: the store, the offers, the paths; the store then, and the paths that are not there.
func TestFetchAll(t *testing.T) {
	for _, r := range [][5]string{
		{"", "", "", "", ""},
		{"1:", "", "", "1:", ""},
		{"", "1:", "", "", ""},
		{"", "", "1", "", "1"},
		{"", "", "2 1 2", "", "1 2"},
		{"", "1:", "1", "1:", ""},
		{"", "2:", "1", "", "1"},
		{"", "1: 2: 3:", "2", "2:", ""},
		{"", "1: 2: 3:", "3 1 9", "1: 3:", "9"},
		// What is there needs nothing, and is not fetched.
		{"1:", "", "1", "1:", ""},
		{"1:", "1:23", "1", "1:", ""},
		{"1:2", "2:", "1", "1:2", ""},
		{"1:9", "1: 2:", "1 2", "1:9 2:", ""},
		// Paths twice.
		{"", "1:", "1 1 1", "1:", ""},
		{"", "1:2 2:", "1 2 1 2", "1:2 2:", ""},
		{"", "1:2", "1 1 9 9", "", "1 9"},
		// Itself.
		{"", "1:1", "1", "1:1", ""},
		{"", "1:12 2:2", "1", "1:12 2:2", ""},
		{"", "1:12", "1", "", "1"},
		{"", "1:1/", "1", "1:1", ""},
		// References, into the depth.
		{"", "1:2 2:", "1", "1:2 2:", ""},
		{"", "1:2 2:", "2", "2:", ""},
		{"", "1: 2:1", "2", "1: 2:1", ""},
		{"", "1:2 2:3 3:4 4:5 5:", "1", "1:2 2:3 3:4 4:5 5:", ""},
		{"", "5:4 4:3 3:2 2:1 1:", "5", "5:4 4:3 3:2 2:1 1:", ""},
		{"", "1:2 2:3 3:4 4:5 5:", "3", "3:4 4:5 5:", ""},
		{"", "1:23 2:4 3:4 4:", "1", "1:23 2:4 3:4 4:", ""},
		{"", "1:234 2:34 3:4 4:", "1", "1:234 2:34 3:4 4:", ""},
		{"2:", "1:2", "1", "1:2 2:", ""},
		{"2:9", "1:2", "1", "1:2 2:9", ""},
		{"3:", "1:2 2:3", "1", "1:2 2:3 3:", ""},
		// References that can't be had; what could be had of them stays.
		{"", "1:2", "1", "", "1"},
		{"", "1:23 2:", "1", "2:", "1"},
		{"", "1:23 3:", "1", "3:", "1"},
		{"", "1:2 2:3", "1", "", "1"},
		{"", "1:2 2:3 4:", "1 4", "4:", "1"},
		{"", "1:2 2:3 3:4", "1 2 3", "", "1 2 3"},
		{"", "1:2 2:34 4:", "1", "4:", "1"},
		{"", "1:23 2:9 3:", "3 1 2", "3:", "1 2"},
		// Circles.
		{"", "1:2 2:1", "1", "", "1"},
		{"", "1:2 2:1", "2 1", "", "1 2"},
		{"", "1:12 2:12", "1 2", "", "1 2"},
		{"", "1:2 2:3 3:1", "1 2 3", "", "1 2 3"},
		{"", "1:2 2:13 3:", "1 2", "3:", "1 2"},
		{"", "1:2 2:3 3:2", "1", "", "1"},
		{"", "1:2 2:1 3:", "1 3", "3:", "1"},
		{"1:9", "2:1", "2", "1:9 2:1", ""},
		// Several offers for one path: the first that is accepted counts, also when another would do.
		{"", "1:2 1:", "1", "", "1"},
		{"", "1: 1:2", "1", "1:", ""},
		{"", "1:2 2: 1:", "1", "1:2 2:", ""},
		// The tree holds more than the manifest names.
		{"", "1:2/ 2:", "1", "1:2", ""},
		{"", "1:2/ 2:", "1 2", "1:2", "2"},
		{"", "1:2/ 2:", "2 1", "1:2 2:", ""},
		{"", "1:23/3 2: 3:", "1 2", "1:23 3:", "2"},
		{"", "1:23/3 2: 3:2", "1 2", "1:23 2: 3:2", ""},
		{"", "1:3/ 2:3 3:", "1 2", "1:3", "2"},
		{"", "1:2 2:1/", "1", "2:1", "1"},
		{"", "1:2 2:1/", "2 1", "2:1", "1"},
		{"", "1:2/ 2:1/", "2 1", "2:1", "1"},
		// What is there would refer to it.
		{"3:1", "1:", "1", "3:1", "1"},
		{"3:1", "1: 2:1", "2", "3:1", "2"},
		{"3:1", "1: 2:", "1 2", "2: 3:1", "1"},
		// Two with one word.
		{"", "1: 1b:", "1 1b", "1: 1b:", ""},
		{"", "1: 1b: 2:1", "2 1b", "1: 2:1", "1b"},
		{"", "1: 1b: 2:1", "1b 2", "1: 1b: 2:1", ""},
		{"1b:", "1: 2:1", "2", "1: 1b: 2:1", ""},
		{"1:1", "1b:", "1b", "1:1", "1b"},
	} {
		fetchAllIs(t, storeOf(r[0]), pathsAt(r[2]), offersOf(r[1]), goodTrust, storeOf(r[3]), pathsAt(r[4]))
		if r[1] != "" && r[2] != "" {
			lacking := []string{}
			for _, path := range pathsAt(r[2]) {
				if !slices.Contains(plainPathsIn(storeOf(r[0])), path) {
					lacking = append(lacking, path)
				}
			}
			slices.Sort(lacking)
			fetchAllIs(t, storeOf(r[0]), pathsAt(r[2]), offersOf(r[1]), nil, storeOf(r[0]), slices.Compact(lacking))
		}
	}
}

// What lies is passed over, wherever it stands.
func TestFetchAllFromMirrorsThatLie(t *testing.T) {
	honest := append(offersOf("2: 3:"), faultyOffer(0))
	want := storeOf("1:23 2: 3:")
	for faults := 2; faults < 256; faults += 2 {
		lie := faultyOffer(faults)
		for at := range len(honest) + 1 {
			fetchAllIs(t, nil, pathsAt("1"), slices.Insert(slices.Clone(honest), at, lie), goodTrust, want, nil)
		}
		fetchAllIs(t, nil, pathsAt("1"), append(offersOf("2: 3:"), lie), goodTrust, nil, pathsAt("1"))
	}
}

func TestFetchAllOfOtherPaths(t *testing.T) {
	paths := []string{"", "1", wordAt("1"), pathAt("1") + " ", "z", pathAt("1")}
	fetchAllIs(t, nil, paths, offersOf("1:"), goodTrust, storeOf("1:"), []string{"", "1", wordAt("1"), pathAt("1") + " ", "z"})
	fetchAllIs(t, storeOf("1:"), []string{"b", "a", "b", ""}, nil, nil, storeOf("1:"), []string{"", "a", "b"})
	fetchAllIs(t, nil, []string{""}, []impl.Offer{{}}, goodTrust, nil, []string{""})
}

func TestFetchAllOfStoresThatCanNotBe(t *testing.T) {
	offers := offersOf("4: 5:")
	for what, spoil := range spoilings() {
		st := changedStore(storeOf("1: 2:13 3:"), func(st []impl.Item) { spoil(&st[1]) })
		if got, lack := impl.FetchAll(st, pathsAt("4 9"), offers, goodTrust); len(got) > 0 || len(lack) > 0 {
			t.Errorf("%s: %d items, %q", what, len(got), lack)
		}
		fetchAllIs(t, st, nil, nil, nil, nil, nil)
	}
	fetchAllIs(t, manyItems(301), pathsAt("4 9"), offers, goodTrust, nil, nil)
	st := storeOf("1: 2:")
	slices.Reverse(st)
	fetchAllIs(t, st, pathsAt("4 9"), offers, goodTrust, nil, nil)
}

func TestFetchAllOfMany(t *testing.T) {
	st := storeOf("9:")
	paths := slices.Repeat(pathsAt("8"), 2001)
	paths[1999] = pathAt("1")
	fetchAllIs(t, st, paths[:2000], offersOf("1:2 2:"), goodTrust, storeOf("1:2 2: 9:"), pathsAt("8"))
	fetchAllIs(t, st, paths, offersOf("1:2 2:"), goodTrust, nil, nil)
	offers := slices.Repeat(offersOf("8:7"), 2001)
	offers[0], offers[1999] = offerAt("m", "1:2"), offerAt("m", "2:")
	fetchAllIs(t, st, pathsAt("1"), offers[:2000], goodTrust, storeOf("1:2 2: 9:"), nil)
	fetchAllIs(t, st, pathsAt("1"), offers, goodTrust, nil, nil)
	fetchAllIs(t, st, nil, offers, goodTrust, nil, nil)
}

func TestFetchAllIntoFullStores(t *testing.T) {
	for n, want := range map[int]string{297: "1:2 2:3 3:", 298: "2:3 3:", 299: "3:", 300: ""} {
		st := manyItems(n)
		got, lack := impl.FetchAll(st, pathsAt("1 2 3"), offersOf("1:2 2:3 3:"), goodTrust)
		full := plainStore(append(slices.Clone(st), storeOf(want)...)...)
		if !same(got, full) || len(lack) != n-297 || !same(lack, pathsAt("1 2 3")[:n-297]) {
			t.Errorf("%d items: %d then, and %q are not there", n, len(got), lack)
		}
	}
}

// A row of offers of which each refers to the next one.
func TestFetchAllOfGreatDepth(t *testing.T) {
	const deep = 2000
	at := func(i int) string { return impl.Word32(uint64(i)) + "-" + strconv.Itoa(i) }
	offers := []impl.Offer{}
	for i := range deep {
		tree, refs := []impl.Entry{{Path: "f", Kind: 2}}, []string{}
		if i+1 < deep {
			tree[0].Data, refs = at(i+1), []string{at(i + 1)}
		}
		offers = append(offers, offerWith("m", at(i), tree, refs))
	}
	got, lack := impl.FetchAll(nil, []string{at(deep - 300)}, offers, goodTrust)
	if len(got) != 300 || len(lack) > 0 || got[0].Path != at(deep-300) || !plainStoreOk(got) {
		t.Errorf("%d items, and %q are not there", len(got), lack)
	}
	// Three hundred are the most that a store holds: the deepest are there.
	got, lack = impl.FetchAll(nil, []string{at(0), at(deep - 1)}, offers, goodTrust)
	if len(got) != 300 || !same(lack, []string{at(0)}) || got[0].Path != at(deep-300) || !plainStoreOk(got) {
		t.Errorf("%d items, and %q are not there", len(got), lack)
	}
	got, lack = impl.FetchAll(nil, []string{at(0)}, offers[:deep-1], goodTrust)
	if len(got) != 0 || !same(lack, []string{at(0)}) {
		t.Errorf("%d items, and %q are not there", len(got), lack)
	}
}

// fetchHolds holds an answer against plain words, and tells whether the promises hold for it.
func fetchHolds(t *testing.T, st []impl.Item, paths []string, offers []impl.Offer, keys []impl.Trust) []impl.Item {
	t.Helper()
	want, lacking := plainFetchAll(st, paths, offers, keys)
	fetchAllIs(t, st, paths, offers, keys, want, lacking)
	got, _ := impl.FetchAll(st, paths, offers, keys)
	if !impl.StoreOk(got) {
		t.Fatalf("%q are no store", plainPathsIn(got))
	}
	for _, item := range got {
		for _, ref := range item.Refs {
			if plainItemAt(got, ref) < 0 {
				t.Fatalf("%q refers to %q, which is not there", item.Path, ref)
			}
		}
		if at := plainItemAt(st, item.Path); at >= 0 {
			if !same(st[at], item) {
				t.Fatalf("%v became %v", st[at], item)
			}
			continue
		}
		// What is new was signed, to the last byte.
		isSigned := slices.ContainsFunc(offers, func(o impl.Offer) bool {
			return plainAccept(o, item.Path, keys) == 0 && bytes.Equal(o.Body, plainPack(item.Tree))
		})
		if !isSigned || item.From != "" {
			t.Fatalf("%v was not signed", item)
		}
	}
	for _, item := range st {
		if plainItemAt(got, item.Path) < 0 {
			t.Fatalf("%q is gone", item.Path)
		}
	}
	return got
}

// Of three paths each is offered with every choice of references, or not at all.
func TestFetchAllOfEveryGraph(t *testing.T) {
	choices := []string{"-", "", "1", "2", "3", "12", "13", "23", "123"}
	ready := map[string]impl.Offer{}
	for _, name := range []string{"1", "2", "3"} {
		for _, letters := range choices[1:] {
			ready[name+":"+letters] = offerAt("m", name+":"+letters)
		}
	}
	stores := [][]impl.Item{nil, storeOf("1:"), storeOf("2:3")}
	sizes := map[int]int{}
	for _, one := range choices {
		for _, two := range choices {
			for _, three := range choices {
				offers := []impl.Offer{}
				for _, word := range []string{"3:" + three, "1:" + one, "2:" + two} {
					if o, isThere := ready[word]; isThere {
						offers = append(offers, o)
					}
				}
				for i, paths := range []string{"1", "2 1", "1 2 3", "3 1"} {
					got := fetchHolds(t, stores[i%3], pathsAt(paths), offers, goodTrust)
					sizes[len(got)]++
				}
			}
		}
	}
	if sizes[0] < 50 || sizes[1] < 50 || sizes[2] < 50 || sizes[3] < 50 {
		t.Error(sizes)
	}
}

func (m cacheMaker) offer() impl.Offer {
	word := m.one("1", "2", "3", "4", "5", "1b") + ":"
	for range m.Intn(4) - 1 {
		word += m.one("1", "2", "3", "4", "5")
	}
	if m.Intn(6) == 0 {
		word += "/" + word[strings.Index(word, ":")+1:][:min(1, len(word)-strings.Index(word, ":")-1)]
	}
	o := offerAt(m.one("a", "b", ""), word)
	if m.Intn(3) > 0 {
		return o
	}
	switch m.Intn(6) {
	case 0:
		o.Body = slices.Clone(o.Body)
		o.Body[m.Intn(len(o.Body))] ^= byte(1 << m.Intn(8))
	case 1:
		o.Body = o.Body[:m.Intn(len(o.Body))]
	case 2:
		at := m.Intn(len(o.Manifest))
		o.Manifest = o.Manifest[:at] + m.one("0", "a", "\n", "") + o.Manifest[at+1:]
	case 3:
		o.Manifest = strings.Replace(o.Manifest, "key k", "key "+m.one("l", "x"), 1)
	case 4:
		read, _ := plainReadManifest(o.Manifest)
		o.Manifest = plainManifestText(plainSignManifest(read, m.one("k", "l", "x"), otherKey))
	case 5:
		o.Body = offerAt("", m.one("1:", "2:3", "3:1")).Body
	}
	return o
}

func TestFetchByChance(t *testing.T) {
	m := cacheMaker{rand.New(rand.NewSource(21))}
	trust := [][]impl.Trust{goodTrust, goodTrust, goodTrust, {trusting("l", otherKey), trusting("k", goodKey)}, {trusting("k", otherKey), trusting("k", goodKey)}, {trusting("l", otherKey)}, nil}
	codes, sizes := map[int64]int{}, map[int]int{}
	for range 3000 {
		offers := []impl.Offer{}
		for range m.Intn(16) {
			offers = append(offers, m.offer())
		}
		keys := trust[m.Intn(len(trust))]
		st := storeOf(m.one("", "", "1:", "1:1", "3:", "2:3 3:", "4:5", "1b:"))
		paths := []string{}
		for range m.Intn(4) {
			paths = append(paths, pathAt(m.one("1", "2", "3", "4", "5", "1b", "9")))
		}
		sizes[len(fetchHolds(t, st, paths, offers, keys))-len(st)]++
		for _, path := range append(paths, pathAt("1")) {
			want := plainFetchOne(path, offers, keys)
			fetchOneIs(t, path, offers, keys, want.Number, want.Codes...)
			for _, code := range want.Codes {
				codes[code]++
			}
		}
	}
	for code := range int64(6) {
		if codes[code] < 50 {
			t.Error(codes)
		}
	}
	if sizes[0] < 100 || sizes[1] < 100 || sizes[2] < 100 {
		t.Error(sizes)
	}
}

// Many at once and one behind the other answer alike, and no goroutine is left behind.
func TestFetchesAreTheSameEachTime(t *testing.T) {
	m := cacheMaker{rand.New(rand.NewSource(22))}
	before := runtime.NumGoroutine()
	for range 20 {
		offers := []impl.Offer{}
		for range 12 {
			offers = append(offers, m.offer())
		}
		paths := pathsAt("1 2 3 4 5 1b")
		st, lack := impl.FetchAll(nil, paths, offers, goodTrust)
		one := impl.FetchOne(paths[0], offers, goodTrust)
		group := sync.WaitGroup{}
		for range 6 {
			group.Go(func() {
				for range 5 {
					again, lacking := impl.FetchAll(nil, paths, offers, goodTrust)
					if !same(again, st) || !same(lacking, lack) || !same(impl.FetchOne(paths[0], offers, goodTrust), one) {
						t.Errorf("another answer of %v", offers)
					}
				}
			})
		}
		group.Wait()
	}
	for range 1000 {
		if runtime.NumGoroutine() <= before {
			return
		}
		time.Sleep(time.Millisecond)
	}
	t.Errorf("%d goroutines, not %d", runtime.NumGoroutine(), before)
}

func TestFetchesAreNewMemory(t *testing.T) {
	st, storeStays := roomyAll(storeOf("4: 5:4 6:"))
	// Go keeps texts of one byte in a place of its own, so the names of these files are longer.
	file := func(letters string) []impl.Entry {
		return []impl.Entry{{Path: "dir", Kind: 1}, {Path: "dir/file", Kind: 2, Data: treeAt(letters)[0].Data}}
	}
	offers, offersStay := roomyAll([]impl.Offer{
		offerWith("m0", pathAt("1"), file("23"), pathsAt("2 3")), offerWith("m1", pathAt("2"), file("4"), pathsAt("4")), offerWith("m2", pathAt("3"), file(""), nil),
		offerWith("m3", pathAt("7"), file("8"), pathsAt("8")), offerWith("m4", pathAt("5"), file(""), nil), faultyOffer(4), faultyOffer(1 << 6),
	})
	keys, keysStay := roomyAll([]impl.Trust{trusting("k", otherKey), trusting("k", goodKey)})
	paths, pathsStay := roomyAll(pathsAt("5 1 3 1 7 9 8"))
	m, manifestStays := roomyAll(wholeManifest())
	wrong, wrongStays := roomyAll(changedManifest(func(m *impl.Manifest) { m.Sum = "x" }))
	text, name, noName := strings.Clone(wholeManifestText), strings.Clone("name"), strings.Clone("no name")
	given := []any{st, offers, keys, paths, m, wrong, text, name, noName}
	answers, befores := []any{}, []string{}
	see := func(answer any) {
		if !isNew(answer, given...) {
			t.Errorf("%.300q is not new", fmt.Sprint(answer))
		}
		answers = append(answers, answer)
		befores = append(befores, fmt.Sprint(answer))
	}
	for range 2 {
		see(impl.ManifestText(m))
		see(impl.ManifestText(wrong))
		for _, s := range []string{text, text[1:], ""} {
			read, _ := impl.ReadManifest(s)
			see(read)
		}
		see(impl.SignManifest(m, name, goodKey))
		see(impl.SignManifest(wrong, name, goodKey))
		see(impl.SignManifest(m, noName, goodKey))
		see(impl.SignManifest(wrong, noName, goodKey))
		for _, o := range offers {
			impl.Accept(o, paths[1], keys)
		}
		for _, path := range paths {
			see(impl.FetchOne(path, offers, keys))
		}
		for _, row := range [][]string{paths, paths[:1], nil} {
			all, lack := impl.FetchAll(st, row, offers, keys)
			see([]any{all, lack})
			none, lack := impl.FetchAll(nil, row, nil, nil)
			see([]any{none, lack})
		}
	}
	if !storeStays() || !offersStay() || !keysStay() || !pathsStay() || !manifestStays() || !wrongStays() {
		t.Error("an argument was changed")
	}
	for i, answer := range answers {
		if fmt.Sprint(answer) != befores[i] {
			t.Errorf("a later call changed %.300q to %.300q", befores[i], fmt.Sprint(answer))
		}
		if !isNew(answer, append(slices.Clone(answers[:i]), answers[i+1:]...)...) {
			t.Errorf("%.300q shares memory with a later answer", befores[i])
		}
	}
}

// What is written into an argument behind a call is not seen in its answer.
func TestFetchesDoNotHangOnWhatWasGiven(t *testing.T) {
	offers := offersOf("1:23 2: 3:")
	one := impl.FetchOne(pathAt("1"), offers, goodTrust)
	all, _ := impl.FetchAll(nil, pathsAt("1"), offers, goodTrust)
	for _, o := range offers {
		for i := range o.Body {
			o.Body[i] = '?'
		}
	}
	if !same(one.Tree, treeAt("23")) || !same(all, storeOf("1:23 2: 3:")) {
		t.Error("an answer hangs on the bytes of an offer")
	}
	for i := range one.Tree {
		one.Tree[i] = impl.Entry{}
	}
	_ = append(one.Refs, "x")
	_ = append(one.Codes, 9)
	if !same(one.Refs, pathsAt("2 3")) || !same(one.Codes, []int64{0}) {
		t.Error("lists of one answer share memory", one)
	}
}
