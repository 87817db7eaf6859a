package tests

import (
	"slices"
	"strconv"
	"strings"
	"testing"

	"loop.example/g00023/impl"
)

const alphabet = "0123456789abcdfghijklmnpqrsvwxyz"

func allBytes() []byte {
	all := []byte{}
	for b := range 256 {
		all = append(all, byte(b))
	}
	return all
}

func TestLimitsOfSums(t *testing.T) {
	if impl.MaxName != 60 || impl.MaxMany != 2000 {
		t.Error(impl.MaxName, impl.MaxMany)
	}
}

func TestSumOfKnownBytes(t *testing.T) {
	for _, c := range []struct {
		bytes []byte
		want  uint64
	}{
		{nil, 13289656399917799222},
		{[]byte{}, 13289656399917799222},
		{[]byte("a"), 4701447581776200239},
		{[]byte("b"), 2801009340412760236},
		{[]byte("ab"), 8070040220682326171},
		{[]byte("ba"), 7029491353204490171},
		{[]byte{0}, 12489298291112568152},
		{[]byte{0, 0}, 9876853080204149240},
		{[]byte{255}, 1284634926794688172},
		{[]byte("larder"), 11610953587564613789},
		{allBytes(), 12818662060379808748},
		{[]byte(strings.Repeat("x", 20000)), 1967834771179717553},
	} {
		if got := impl.Sum(c.bytes); got != c.want {
			t.Errorf("Sum of %d bytes %.20q is %d, not %d", len(c.bytes), c.bytes, got, c.want)
		}
	}
}

func TestSumLeavesItsBytes(t *testing.T) {
	b, stays := roomy([]byte("content"), 'z')
	first := impl.Sum(b)
	if !stays() || impl.Sum(b) != first || impl.Sum([]byte("content")) != first {
		t.Error("the bytes or their sum changed")
	}
}

func TestWord32OfKnownNumbers(t *testing.T) {
	for x, want := range map[uint64]string{
		0:                    "0000000000000",
		1:                    "0000000000001",
		9:                    "0000000000009",
		10:                   "000000000000a",
		13:                   "000000000000d",
		14:                   "000000000000f",
		31:                   "000000000000z",
		32:                   "0000000000010",
		33:                   "0000000000011",
		1 << 59:              "0h00000000000",
		1<<60 - 1:            "0zzzzzzzzzzzz",
		1 << 60:              "1000000000000",
		1 << 61:              "2000000000000",
		1 << 62:              "4000000000000",
		1 << 63:              "8000000000000",
		15 << 60:             "g000000000000",
		18446744073709551615: "gzzzzzzzzzzzz",
		13289656399917799222: "bhvjq2n41imrn",
		4701447581776200239:  "42gp5ma8y7hig",
	} {
		if got := impl.Word32(x); got != want {
			t.Errorf("Word32 of %d is %q, not %q", x, got, want)
		}
	}
}

func TestWord32HasALetterForEachFiveBits(t *testing.T) {
	for place := range 13 {
		for value := range 32 {
			if place == 0 && value > 15 {
				continue
			}
			x := uint64(value) << (5 * (12 - place))
			want := strings.Repeat("0", place) + alphabet[value:value+1] + strings.Repeat("0", 12-place)
			if got := impl.Word32(x); got != want {
				t.Errorf("Word32 of %d is %q, not %q", x, got, want)
			}
		}
	}
}

func TestReadWord32ReadsWhatIsShown(t *testing.T) {
	numbers := []uint64{0, 1, 31, 32, 1<<60 - 1, 1 << 60, 1<<63 - 1, 1 << 63, 1<<64 - 1}
	for i := range 1000 {
		numbers = append(numbers, impl.Sum([]byte(strconv.Itoa(i))))
	}
	for i := range 64 {
		numbers = append(numbers, 1<<i, ^uint64(1<<i))
	}
	for _, x := range numbers {
		if got, ok := impl.ReadWord32(impl.Word32(x)); !ok || got != x {
			t.Errorf("%d is read as %d, %v", x, got, ok)
		}
	}
}

func TestReadWord32ReadsNothingElse(t *testing.T) {
	for _, s := range []string{
		"", "0", "000000000000", "00000000000000", "00000000000000000000000000",
		"h000000000000", "z000000000000", "zzzzzzzzzzzzz", "hzzzzzzzzzzzz",
		"000000000000-", " 000000000000", "000000000000 ", "gzzzzzzzzzzzzz", "\xc3\xa900000000000",
	} {
		if x, ok := impl.ReadWord32(s); ok || x != 0 {
			t.Errorf("%q is read as %d, %v", s, x, ok)
		}
	}
}

func TestReadWord32AtEachPlaceAndByte(t *testing.T) {
	for place := range 13 {
		for b := range 256 {
			word := []byte("1111111111111")
			word[place] = byte(b)
			value := strings.IndexByte(alphabet, byte(b))
			want := value >= 0 && (place > 0 || value <= 15)
			x, ok := impl.ReadWord32(string(word))
			if ok != want || !ok && x != 0 || ok && impl.Word32(x) != string(word) {
				t.Errorf("%q is read as %d, %v", word, x, ok)
			}
		}
	}
}

func TestAddressOfKnownContents(t *testing.T) {
	long := strings.Repeat("n", 60)
	for _, c := range []struct{ kind, name, content, want string }{
		{"out", "a", "x", "b5nsn1ha95pvd-a"},
		{"drv", "a", "x", "5r903xgayc5cr-a"},
		{"out", "a", "", "gx281gmhygdp6-a"},
		{"profile", "x-1.0_b+c", "\x00\xff:", "8jpdi44b46wc9-x-1.0_b+c"},
		{"a", "b", "c:d", "89fq1pf483m3l-b"},
		{"k", long, "c", "8nfvinxhk388s-" + long},
		{strings.Repeat("k", 60), "n", "c", "3a8ifghcfjdg6-n"},
	} {
		got := impl.Address(c.kind, c.name, []byte(c.content))
		if got != c.want {
			t.Errorf("Address of %q, %q, %q is %q, not %q", c.kind, c.name, c.content, got, c.want)
		}
		if !impl.AddressOk(got) {
			t.Errorf("%q is no address", got)
		}
		sum := impl.Word32(impl.Sum([]byte(c.kind + ":" + c.name + ":" + c.content)))
		if got != sum+"-"+c.name {
			t.Errorf("%q is not made of the sum %q", got, sum)
		}
	}
	if impl.Address("out", "a", nil) != impl.Address("out", "a", []byte{}) {
		t.Error("no bytes and nil differ")
	}
}

func TestAddressIsTheSameAlwaysAndDiffersElse(t *testing.T) {
	seen := map[string]string{}
	for _, kind := range []string{"out", "drv", "src"} {
		for _, name := range []string{"a", "b", "ab", "a-b"} {
			for _, content := range []string{"", "a", "b", "ab", "ba", ":", "a:b", "\x00", "\x00\x00"} {
				a := impl.Address(kind, name, []byte(content))
				if a != impl.Address(kind, name, []byte(content)) {
					t.Errorf("%q has two addresses", content)
				}
				said := strconv.Quote(kind) + strconv.Quote(name) + strconv.Quote(content)
				if other, there := seen[a]; there {
					t.Errorf("%s and %s have one address", said, other)
				}
				seen[a] = said
			}
		}
	}
}

func TestAddressOfNoName(t *testing.T) {
	long := strings.Repeat("n", 61)
	for _, bad := range []string{"", ".", ".a", "a b", "a:b", "a/b", long, "\xc3\xa9", "a\x00"} {
		if a := impl.Address("out", bad, []byte("x")); a != "" {
			t.Errorf("the name %q has the address %q", bad, a)
		}
		if a := impl.Address(bad, "a", []byte("x")); a != "" {
			t.Errorf("the kind %q has the address %q", bad, a)
		}
	}
}

func TestAddressLeavesItsContent(t *testing.T) {
	content, stays := roomy([]byte("content"), 'z')
	first := impl.Address("out", "a", content)
	if !stays() || impl.Address("out", "a", content) != first || impl.Address("out", "a", []byte("content")) != first {
		t.Error("the content or its address changed")
	}
}

func TestAddressOk(t *testing.T) {
	word := "0123456789abc"
	long := strings.Repeat("n", 60)
	for _, a := range []string{word + "-a", word + "--", word + "-a.drv", word + "-" + long, "gzzzzzzzzzzzz-a"} {
		if !impl.AddressOk(a) {
			t.Errorf("%q is no address", a)
		}
	}
	for _, a := range []string{
		"", "a", "-", "-a", word, word + "-", word + "a", word + "_a", word + "-" + long + "n",
		word + "-.a", word + "-a b", word + "-a/b", word + "0-a", word[1:] + "-a", word[1:] + "-aa",
		"hzzzzzzzzzzzz-a", "012345678e9ab-a", "0123456789ABC-a", " " + word + "-a", word + "-a\n",
	} {
		if impl.AddressOk(a) {
			t.Errorf("%q is an address", a)
		}
	}
}

func TestNameOk(t *testing.T) {
	for _, s := range []string{
		"a", "Z", "0", "-", "_", "+", "a.", "a..", "-.", "_._", "gcc-12.2.0+b_1",
		strings.Repeat("n", 59), strings.Repeat("n", 60), "abcdefghijklmnopqrstuvwxyzABCDEFGHIJKLMNOPQRSTUVWXYZ", "0123456789-_.+",
	} {
		if !impl.NameOk(s) {
			t.Errorf("%q is no name", s)
		}
	}
	for _, s := range []string{
		"", ".", "..", ".a", strings.Repeat("n", 61), strings.Repeat("n", 5000), "a b", " a", "a ", "a/b", "a\n", "\xc3\xa9", "a'",
	} {
		if impl.NameOk(s) {
			t.Errorf("%q is a name", s)
		}
	}
}

func TestNameOkOfEachByte(t *testing.T) {
	const inside = "abcdefghijklmnopqrstuvwxyzABCDEFGHIJKLMNOPQRSTUVWXYZ0123456789-_.+"
	for b := range 256 {
		s := string([]byte{byte(b)})
		may := strings.Contains(inside, s)
		if impl.NameOk(s) != (may && s != ".") {
			t.Errorf("NameOk of %q", s)
		}
		if impl.NameOk("a"+s+"a") != may || impl.NameOk("a"+s) != may {
			t.Errorf("NameOk with %q further on", s)
		}
	}
}

func TestClash(t *testing.T) {
	for _, c := range []struct {
		list  []string
		first string
		ok    bool
	}{
		{nil, "", false},
		{[]string{}, "", false},
		{[]string{"a"}, "", false},
		{[]string{""}, "", false},
		{[]string{"a", "A", "aa", ""}, "", false},
		{[]string{"a", "a"}, "a", true},
		{[]string{"", "a", ""}, "", true},
		{[]string{"b", "a", "c", "a", "b"}, "a", true},
		{[]string{"a", "b", "c", "b", "a"}, "b", true},
		{[]string{"a", "b", "b", "a", "a"}, "b", true},
		{[]string{"x\x00", "x", "\xff", "x\x00"}, "x\x00", true},
	} {
		if first, ok := impl.Clash(c.list); first != c.first || ok != c.ok {
			t.Errorf("Clash of %q is %q, %v", c.list, first, ok)
		}
	}
}

func TestClashOfMany(t *testing.T) {
	many := []string{}
	for i := range impl.MaxMany {
		many = append(many, strconv.Itoa(i))
	}
	if first, ok := impl.Clash(many); ok || first != "" {
		t.Error(first, ok)
	}
	last := slices.Clone(many)
	last[impl.MaxMany-1] = "0"
	if first, ok := impl.Clash(last); !ok || first != "0" {
		t.Error(first, ok)
	}
	if first, ok := impl.Clash(append(last, "1")); ok || first != "" {
		t.Error(first, ok)
	}
}

func TestClashLeavesItsList(t *testing.T) {
	list, stays := roomy([]string{"b", "a", "c", "a", "b"}, "room")
	first, ok := impl.Clash(list)
	if !stays() || first != "a" || !ok {
		t.Error("the list changed", first, ok)
	}
}
