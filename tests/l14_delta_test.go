package tests

import (
	"bytes"
	"fmt"
	"math"
	"math/rand"
	"slices"
	"strings"
	"sync"
	"testing"

	"loop.example/g00023/impl"
)

// stepsOf makes "7,3" (a copy of 3 bytes from 7 on) and "+x" (an addition of x).
func stepsOf(row string) []impl.Step {
	ds := []impl.Step{}
	for _, word := range strings.Fields(row) {
		if data, isAdded := strings.CutPrefix(word, "+"); isAdded {
			ds = append(ds, impl.Step{Kind: 2, Data: []byte(data)})
			continue
		}
		at, n, _ := strings.Cut(word, ",")
		ds = append(ds, impl.Step{Kind: 1, At: numberAt(at), N: numberAt(n)})
	}
	return ds
}

func shownSteps(ds []impl.Step) string {
	words := []string{}
	for _, d := range ds {
		switch {
		case d.Kind == 2 && d.At == 0 && d.N == 0:
			words = append(words, "+"+string(d.Data))
		case d.Kind == 1 && len(d.Data) == 0:
			words = append(words, fmt.Sprint(d.At, ",", d.N))
		default:
			words = append(words, fmt.Sprint(d))
		}
	}
	return strings.Join(words, " ")
}

func sameSteps(a, b []impl.Step) bool {
	return slices.EqualFunc(a, b, func(a, b impl.Step) bool {
		return a.Kind == b.Kind && a.At == b.At && a.N == b.N && bytes.Equal(a.Data, b.Data)
	})
}

// runOf are n bytes of which no six beside each other stand there twice, if n is at most some ten thousand; another first gives others.
func runOf(first byte, n int) []byte {
	run := []byte{}
	for i := 0; len(run) < n; i++ {
		run = append(run, first, byte(i), byte(i>>8))
	}
	return run[:n]
}

func joined(pieces ...any) []byte {
	whole := []byte{}
	for _, piece := range pieces {
		whole = fmt.Appendf(whole, "%s", piece)
	}
	return whole
}

func applyIs(t *testing.T, old []byte, ds []impl.Step, want []byte, ok bool) {
	t.Helper()
	if made, canBe := plainApply(old, ds); canBe != ok || !bytes.Equal(made, want) {
		t.Fatalf("plain words: %.100q with %.100q is %.100q %v, not %.100q %v", old, shownSteps(ds), made, canBe, want, ok)
	}
	if made, canBe := impl.ApplyDelta(old, ds); canBe != ok || !bytes.Equal(made, want) {
		t.Fatalf("%.100q with %.100q is %.100q %v, not %.100q %v", old, shownSteps(ds), made, canBe, want, ok)
	}
}

// deltaHolds holds all that is made of old and new against plain words, and tells whether the promises hold for it.
func deltaHolds(t *testing.T, old, new []byte) []impl.Step {
	t.Helper()
	ds := impl.MakeDelta(old, new)
	if want := plainMake(old, new); !sameSteps(ds, want) {
		t.Fatalf("from %.200q to %.200q: %.200q, not %.200q", old, new, shownSteps(ds), shownSteps(want))
	}
	if got, want := impl.Saved(old, new), plainSaved(old, new); got != want {
		t.Fatalf("from %.200q to %.200q %d are saved, not %d", old, new, got, want)
	}
	if len(old) > 3000 || len(new) > 3000 {
		return ds
	}
	if made, ok := impl.ApplyDelta(old, ds); !ok || !bytes.Equal(made, new) {
		t.Fatalf("from %.200q to %.200q: %.200q gives %.200q %v", old, new, shownSteps(ds), made, ok)
	}
	bytesHold(t, ds)
	return ds
}

// bytesHold is for steps that have bytes.
func bytesHold(t *testing.T, ds []impl.Step) {
	t.Helper()
	written := impl.DeltaBytes(ds)
	if want := plainDeltaBytes(ds); !bytes.Equal(written, want) || len(want) == 0 {
		t.Fatalf("%.200q are the bytes %.200q, not %.200q", shownSteps(ds), written, want)
	}
	if read, ok := impl.ReadDelta(written); !ok || !sameSteps(read, ds) {
		t.Fatalf("%.200q are read as %.200q %v, not as %.200q", written, shownSteps(read), ok, shownSteps(ds))
	}
}

// readsDelta holds an answer against plain words, and tells whether there are steps.
func readsDelta(t *testing.T, b []byte) bool {
	t.Helper()
	want, ok := plainReadDelta(b)
	got, isRead := impl.ReadDelta(b)
	if isRead != ok || ok && !sameSteps(got, want) || !ok && len(got) > 0 {
		t.Fatalf("%.200q is read as %.200q %v, not as %.200q %v", b, shownSteps(got), isRead, shownSteps(want), ok)
	}
	if ok && !bytes.Equal(impl.DeltaBytes(got), b) {
		t.Fatalf("%.200q are not the bytes of what is read", b)
	}
	return ok
}

func TestLimitsOfDeltas(t *testing.T) {
	if impl.MaxBytes != 1000000 || impl.MaxCopy != 1000 || impl.MinCopy != 6 || impl.MaxDelta != 3000 || impl.MaxSteps != 10000 || impl.StepCopy != 1 || impl.StepAdd != 2 {
		t.Error("a constant is another one")
	}
}

func TestApplyDelta(t *testing.T) {
	for _, row := range []struct{ old, steps, want string }{
		{"", "", ""}, {"abc", "", ""}, {"", "+x", "x"}, {"abc", "+x", "x"}, {"abc", "+x +y +xy", "xyxy"},
		{"a", "0,1", "a"}, {"abc", "0,1", "a"}, {"abc", "1,1", "b"}, {"abc", "2,1", "c"}, {"abc", "0,3", "abc"}, {"abc", "1,2", "bc"}, {"abc", "0,2", "ab"},
		{"abc", "0,3 0,3", "abcabc"}, {"abc", "2,1 1,1 0,1", "cba"}, {"abc", "0,2 1,2", "abbc"}, {"abc", "+x 0,3 +y", "xabcy"}, {"abc", "0,1 +x 1,1 +y 2,1", "axbyc"}, {"abc", "0,1 +x +y 1,1", "axyb"},
		{"\x00\xff\x80", "2,1 +\x00\xff 0,2", "\x80\x00\xff\x00\xff"},
		{"hello,world", "+say: 0,11 +!", "say:hello,world!"},
	} {
		applyIs(t, []byte(row.old), stepsOf(row.steps), []byte(row.want), true)
	}
	for _, row := range [][2]string{
		{"", "0,1"}, {"abc", "0,4"}, {"abc", "1,3"}, {"abc", "2,2"}, {"abc", "3,1"}, {"abc", "4,1"}, {"abc", "1000000,1"}, {"abc", "0,1000000"},
		{"abc", "0,4 +x"}, {"abc", "+x 0,4"}, {"abc", "0,3 0,4"}, {"abc", "0,4 0,3"}, {"abc", "+x 3,1 +y"}, {"abc", "0,3 3,1"},
	} {
		applyIs(t, []byte(row[0]), stepsOf(row[1]), nil, false)
	}
	applyIs(t, nil, nil, nil, true)
}

// The room behind old is not old.
func TestCopiesOfWhatIsBehind(t *testing.T) {
	old := []byte("abcdef")
	applyIs(t, old[:3], stepsOf("0,3"), []byte("abc"), true)
	for _, row := range []string{"0,4", "0,6", "3,1", "2,2", "3,3", "5,1"} {
		applyIs(t, old[:3], stepsOf(row), nil, false)
	}
	if ds := impl.MakeDelta(old[:5], old); !sameSteps(ds, stepsOf("+abcdef")) {
		t.Error(shownSteps(ds))
	}
	if ds := impl.MakeDelta(old, old[:5]); !sameSteps(ds, stepsOf("+abcde")) {
		t.Error(shownSteps(ds))
	}
}

// Every step of these numbers and bytes, alone and among steps that can be.
func TestEveryStep(t *testing.T) {
	old := []byte("abc")
	numbers := []int64{math.MinInt64, math.MinInt64 + 1, -1 << 32, -3, -1, 0, 1, 2, 3, 4, 126, 127, 128, 16383, 16384, 268435454, 268435455, 268435456, 1 << 32, 1<<32 + 1, 1 << 53, 1<<62 - 1, 1 << 62, math.MaxInt64 - 3, math.MaxInt64 - 2, math.MaxInt64 - 1, math.MaxInt64}
	can, written := 0, 0
	for _, kind := range []int64{math.MinInt64, -1, 0, 1, 2, 3, 4, 255, 256, 257, 258, 1 << 32, 1<<32 + 1, 1<<32 + 2, math.MaxInt64} {
		for _, data := range [][]byte{nil, {}, []byte("x"), []byte("xyz")} {
			for _, at := range numbers {
				for _, n := range numbers {
					d := impl.Step{Kind: kind, At: at, N: n, Data: data}
					for _, ds := range [][]impl.Step{{d}, {d, stepsOf("0,2")[0]}, {stepsOf("+y")[0], d}, {stepsOf("0,3")[0], d, stepsOf("+y")[0]}} {
						want, ok := plainApply(old, ds)
						applyIs(t, old, ds, want, ok)
						b := plainDeltaBytes(ds)
						if got := impl.DeltaBytes(ds); !bytes.Equal(got, b) {
							t.Fatalf("%v are the bytes %q, not %q", ds, got, b)
						}
						if len(b) > 0 && !readsDelta(t, b) {
							t.Fatalf("%v are not read", ds)
						}
						can += min(len(want), 1)
						written += min(len(b), 1)
					}
				}
			}
		}
	}
	// Copies of old: three of one byte, two of two, one of three, each with no Data twice; additions of one byte and of three.
	if can != 4*(2*6+2) {
		t.Error("steps that were:", can)
	}
	// 12 of the numbers are not below 0 and not above what is written, 11 of these not 0; no Data stands twice here too.
	if written != 4*(2*12*11+2) {
		t.Error("steps that were written:", written)
	}
}

func TestStepsThatCanNotBe(t *testing.T) {
	old := []byte("abcdef")
	for _, d := range []impl.Step{
		{}, {Kind: 0, N: 1}, {Kind: 0, Data: []byte("x")}, {Kind: 3, N: 1}, {Kind: 3, Data: []byte("x")}, {Kind: -1, N: 1}, {Kind: -2, Data: []byte("x")}, {Kind: 257, N: 1}, {Kind: 258, Data: []byte("x")},
		{Kind: 1}, {Kind: 1, At: 1}, {Kind: 1, N: -1}, {Kind: 1, At: 3, N: -1}, {Kind: 1, At: 6}, {Kind: 1, At: -1, N: 1}, {Kind: 1, At: -1, N: 3}, {Kind: 1, At: -6, N: 6}, {Kind: 1, At: math.MinInt64, N: math.MinInt64},
		{Kind: 1, N: 1, Data: []byte("x")}, {Kind: 1, Data: []byte("x")}, {Kind: 1, At: 2, N: 3, Data: []byte("abc")},
		{Kind: 2}, {Kind: 2, Data: []byte{}}, {Kind: 2, N: 1}, {Kind: 2, At: 1, Data: []byte("x")}, {Kind: 2, N: 1, Data: []byte("x")}, {Kind: 2, At: -1, Data: []byte("x")}, {Kind: 2, N: -1, Data: []byte("x")}, {Kind: 2, At: 1, N: 1, Data: []byte("x")},
	} {
		good := stepsOf("0,6 +x 1,2")
		for at := range len(good) + 1 {
			ds := slices.Insert(slices.Clone(good), at, d)
			applyIs(t, old, ds, nil, false)
			if b := impl.DeltaBytes(ds); len(b) > 0 {
				t.Errorf("%v are the bytes %q", ds, b)
			}
		}
		applyIs(t, old, []impl.Step{d}, nil, false)
		applyIs(t, nil, []impl.Step{d}, nil, false)
		if b := impl.DeltaBytes([]impl.Step{d}); len(b) > 0 {
			t.Errorf("%v are the bytes %q", d, b)
		}
	}
	empty := []impl.Step{{Kind: 1, At: 1, N: 2, Data: []byte{}}}
	applyIs(t, old, empty, []byte("bc"), true)
	bytesHold(t, empty)
}

// What is no number any more when At and N are put together is not there.
func TestCopiesOfGreatNumbers(t *testing.T) {
	for _, old := range [][]byte{nil, []byte("a"), []byte("abc"), make([]byte, 1000001)} {
		for _, row := range [][2]int64{
			{math.MaxInt64, math.MaxInt64}, {math.MaxInt64, 1}, {1, math.MaxInt64}, {0, math.MaxInt64}, {1 << 62, 1 << 62}, {math.MaxInt64 - 1, 3}, {2, math.MaxInt64 - 1}, {1<<32 + 1, 1}, {1, 1<<32 + 1}, {math.MaxInt64 - 2, 3},
			{268435455, 1}, {1, 268435455}, {268435455, 268435455},
		} {
			applyIs(t, old, []impl.Step{{Kind: 1, At: row[0], N: row[1]}}, nil, false)
		}
	}
}

func TestMaxStepsOfDeltas(t *testing.T) {
	old := []byte("ab")
	for _, n := range []int{9999, 10000, 10001, 20000} {
		for _, row := range []string{"0,1", "+x", "1,1 +x", "+x +y"} {
			some := stepsOf(row)
			ds, want := []impl.Step{}, []byte{}
			for i := range n {
				d := some[i%len(some)]
				ds = append(ds, d)
				if d.Kind == 1 {
					want = append(want, old[d.At])
				}
				want = append(want, d.Data...)
			}
			if n <= 10000 {
				applyIs(t, old, ds, want, true)
				bytesHold(t, ds)
				continue
			}
			applyIs(t, old, ds, nil, false)
			if b := impl.DeltaBytes(ds); len(b) > 0 {
				t.Errorf("%d steps have bytes", n)
			}
			b := plainDeltaBytes(ds[:10000])
			if readsDelta(t, append(b, plainDeltaBytes(ds[10000:])[4:]...)) {
				t.Errorf("%d steps are read", n)
			}
		}
	}
}

func TestMaxBytesOfDeltas(t *testing.T) {
	million := bytes.Repeat([]byte("0123456789"), 100000)
	more := append(slices.Clone(million), '!')
	all := impl.Step{Kind: 1, N: 1000000}
	one := impl.Step{Kind: 2, Data: []byte("!")}
	applyIs(t, million, []impl.Step{all}, million, true)
	applyIs(t, more, []impl.Step{all}, million, true)
	applyIs(t, more, []impl.Step{{Kind: 1, N: 1000001}}, nil, false)
	applyIs(t, more, []impl.Step{{Kind: 1, At: 1, N: 1000000}}, more[1:], true)
	applyIs(t, million, []impl.Step{all, one}, nil, false)
	applyIs(t, million, []impl.Step{one, all}, nil, false)
	applyIs(t, million, []impl.Step{{Kind: 1, N: 999999}, one}, append(slices.Clone(million[:999999]), '!'), true)
	applyIs(t, nil, []impl.Step{{Kind: 2, Data: million}}, million, true)
	applyIs(t, nil, []impl.Step{{Kind: 2, Data: more}}, nil, false)
	applyIs(t, nil, []impl.Step{{Kind: 2, Data: million}, one}, nil, false)
	applyIs(t, []byte("x"), []impl.Step{{Kind: 2, Data: more[1:]}, {Kind: 1, N: 1}}, nil, false)
	copies := slices.Repeat([]impl.Step{{Kind: 1, N: 1000}}, 1000)
	applyIs(t, million, copies, million, true)
	applyIs(t, million, append(copies, impl.Step{Kind: 1, N: 1}), nil, false)
	applyIs(t, million, slices.Repeat([]impl.Step{all}, 10000), nil, false)
	// Bytes have steps that are too many together for ApplyDelta, too.
	bytesHold(t, []impl.Step{all, one, {Kind: 2, Data: more}})
}

func makeIs(t *testing.T, old, new, steps string) {
	t.Helper()
	if ds := deltaHolds(t, []byte(old), []byte(new)); !sameSteps(ds, stepsOf(steps)) {
		t.Errorf("from %q to %q: %q, not %q", old, new, shownSteps(ds), steps)
	}
}

func TestMakeDelta(t *testing.T) {
	for _, row := range [][3]string{
		{"", "", ""}, {"abc", "", ""}, {"abcdefgh", "", ""}, {"", "a", "+a"}, {"", "abcdefgh", "+abcdefgh"}, {"abc", "abc", "+abc"}, {"abcde", "abcde", "+abcde"},
		{"abcdef", "abcdef", "0,6"}, {"abcdefg", "abcdefg", "0,7"}, {"abcdef", "abcde", "+abcde"}, {"abcde", "abcdef", "+abcdef"}, {"xabcdef", "yabcdef", "+y 1,6"}, {"abcdefx", "abcdefy", "0,6 +y"}, {"xabcdex", "yabcdey", "+yabcdey"},
		{"hello,world", "say:hello,world!", "+say: 0,11 +!"}, {"abcdefgh", "abcdeXfgh", "+abcdeXfgh"},
		// Of several places the first.
		{"abcdef-abcdef", "abcdef", "0,6"}, {"-abcdef-abcdef-", "abcdef", "1,6"}, {"aaaaaaaaaa", "aaaaaa", "0,6"}, {"aaaaaaaaaa", "aaaaaaaaaa", "0,10"},
		// Further on the match is longer.
		{"abcdef-abcdefg", "abcdefg", "7,7"}, {"abcdefg-abcdef-abcdefgh", "abcdefghi", "15,8 +i"}, {"abcdef-abcdefg-abcdefg", "abcdefg", "7,7"}, {"abcdefg-abcdef", "abcdefg", "0,7"}, {"abcdefX-abcdefY", "abcdefY", "8,7"},
		// The longest from here on is taken though a later byte would have a longer one.
		{"abcdefg-bcdefghijk", "abcdefghijk", "0,7 +hijk"}, {"abcdef-bcdefghijk", "abcdefghijk", "0,6 +ghijk"}, {"abcde-bcdefghijk", "abcdefghijk", "+a 6,10"},
		// Places that overlap.
		{"abababab", "abababab", "0,8"}, {"abababab", "babababa", "1,7 +a"}, {"abababab", "ababababab", "0,8 +ab"}, {"aaaaaa", "aaaaaaaaaaaa", "0,6 0,6"}, {"aaaaaaa", "aaaaaaaaaaaaaaaaaaaa", "0,7 0,7 0,6"}, {"aaaaaaa", "aaaaaaaaaaaa", "0,7 +aaaaa"}, {"aaaaaab", "aaaaaaab", "0,6 +ab"}, {"aaaaaaab", "aaaaaaab", "0,8"},
		// At the ends of old and new.
		{"xyabcdef", "abcdefxy", "2,6 +xy"}, {"xyabcdef", "xyabcdef", "0,8"}, {"abcdefxy", "xyabcdef", "+xy 0,6"}, {"xyzabcdefg", "bcdefg", "4,6"}, {"xyzabcdefg", "bcdefgx", "4,6 +x"},
		// Additions beside copies and between them.
		{"abcdef", "XabcdefYabcdefZ", "+X 0,6 +Y 0,6 +Z"}, {"abcdef", "XXabcdefYYYabcdefZZ", "+XX 0,6 +YYY 0,6 +ZZ"}, {"abcdefghijkl", "ghijklabcdef", "6,6 0,6"}, {"abcdefghijkl", "ghijklabcdefXabcdefghijkl", "6,6 0,6 +X 0,12"}, {"abcdefghijkl", "ghijklabcde", "6,6 +abcde"}, {"abcdefghijkl", "hijklabcdef", "+hijkl 0,6"},
		{"abcdef", "abcdabcdefef", "+abcd 0,6 +ef"}, {"\x00\x00\x00\x00\x00\x00", "\x00\x00\x00\x00\x00\x00\x00", "0,6 +\x00"}, {"\xff\xfe\x80\x00\x01\x7f", "\xff\xff\xfe\x80\x00\x01\x7f", "+\xff 0,6"},
	} {
		makeIs(t, row[0], row[1], row[2])
	}
	if ds := impl.MakeDelta(nil, nil); len(ds) > 0 {
		t.Error(ds)
	}
}

// A match of each length at each place of old and new.
func TestMakeDeltaByLength(t *testing.T) {
	for length := range 20 {
		match := string(runOf('m', length))
		for ahead := range 4 {
			for behind := range 4 {
				old := strings.Repeat("<", ahead) + match + strings.Repeat(">", behind)
				new := strings.Repeat("(", behind) + match + strings.Repeat(")", ahead)
				ds := deltaHolds(t, []byte(old), []byte(new))
				copies := slices.DeleteFunc(slices.Clone(ds), func(d impl.Step) bool { return d.Kind == 2 })
				if length < 6 {
					if len(copies) > 0 || len(ds) != min(len(new), 1) {
						t.Fatalf("from %q to %q: %q", old, new, shownSteps(ds))
					}
				} else if len(copies) != 1 || copies[0].At != int64(ahead) || copies[0].N != int64(length) || len(ds) != 1+min(ahead, 1)+min(behind, 1) {
					t.Fatalf("from %q to %q: %q", old, new, shownSteps(ds))
				}
			}
		}
	}
}

func TestMaxCopy(t *testing.T) {
	run := runOf('r', 3000)
	for n, want := range map[int]string{
		999: "0,999", 1000: "0,1000", 1001: "0,1000 +" + string(run[1000:1001]), 1005: "0,1000 +" + string(run[1000:1005]), 1006: "0,1000 1000,6", 1007: "0,1000 1000,7", 2000: "0,1000 1000,1000", 2006: "0,1000 1000,1000 2000,6", 3000: "0,1000 1000,1000 2000,1000",
	} {
		ds := deltaHolds(t, run[:n], run[:n])
		if added := want[strings.IndexByte(want, '+')+1:]; added != want {
			if len(ds) != 2 || ds[0].N != 1000 || string(ds[1].Data) != added {
				t.Errorf("%d bytes: %q", n, shownSteps(ds))
			}
		} else if !sameSteps(ds, stepsOf(want)) {
			t.Errorf("%d bytes: %q, not %q", n, shownSteps(ds), want)
		}
	}
	// Both places have MaxCopy bytes, or more: the first one, though the second has more.
	for _, row := range []struct {
		first, second int
		want          string
	}{{1000, 1100, "0,1000 2001,100"}, {999, 1100, "1000,1000 2000,100"}, {1100, 1000, "0,1000 1000,100"}, {1100, 1100, "0,1000 1000,100"}, {1001, 1100, "0,1000 2002,100"}} {
		old := joined(run[:row.first], "!", run[:row.second])
		if ds := deltaHolds(t, old, run[:1100]); !sameSteps(ds, stepsOf(row.want)) {
			t.Errorf("of places with %d and %d bytes: %q, not %q", row.first, row.second, shownSteps(ds), row.want)
		}
	}
	same := bytes.Repeat([]byte("a"), 3000)
	if ds := deltaHolds(t, same, same[:2500]); !sameSteps(ds, stepsOf("0,1000 0,1000 0,500")) {
		t.Error(shownSteps(ds))
	}
	if ds := deltaHolds(t, same[:1500], same); !sameSteps(ds, stepsOf("0,1000 0,1000 0,1000")) {
		t.Error(shownSteps(ds))
	}
	if ds := deltaHolds(t, same[:999], same[:1000]); !sameSteps(ds, stepsOf("0,999 +a")) {
		t.Error(shownSteps(ds))
	}
}

func TestMaxDelta(t *testing.T) {
	run := runOf('r', 6000)
	for _, sizes := range [][2]int{{2999, 2999}, {3000, 3000}, {3000, 1}, {1, 3000}, {0, 3000}, {3000, 0}} {
		old, new := run[:sizes[0]], run[6000-sizes[1]:]
		if ds := deltaHolds(t, old, new); len(ds) == 0 && len(new) > 0 {
			t.Errorf("nothing for %d and %d bytes", len(old), len(new))
		}
	}
	for _, sizes := range [][2]int{{3001, 3000}, {3000, 3001}, {3001, 3001}, {3001, 0}, {0, 3001}, {3001, 1}, {1, 3001}, {6000, 6000}} {
		if ds := deltaHolds(t, run[:sizes[0]], run[:sizes[1]]); len(ds) > 0 {
			t.Errorf("%q for %d and %d bytes", shownSteps(ds), sizes[0], sizes[1])
		}
	}
}

// No 3000 bytes have more steps than these, so MakeDelta never meets MaxSteps.
func TestTheMostSteps(t *testing.T) {
	old := []byte("abcdef")
	new := bytes.Repeat([]byte("-abcdef"), 428)
	if ds := deltaHolds(t, old, new); len(new) != 2996 || len(ds) != 856 {
		t.Error(len(new), len(ds))
	}
	if ds := deltaHolds(t, old, append(new, "abc"...)); len(ds) != 857 {
		t.Error(len(ds))
	}
	if ds := deltaHolds(t, old, bytes.Repeat(old, 500)); len(ds) != 500 {
		t.Error(len(ds))
	}
}

func TestEverySmallDelta(t *testing.T) {
	texts := [][]byte{}
	everyText("ab", 8, func(s string) { texts = append(texts, []byte(s)) })
	copies := 0
	for _, old := range texts {
		for _, new := range texts {
			for _, d := range deltaHolds(t, old, new) {
				copies += int(2 - d.Kind)
			}
		}
	}
	if copies < 1000 {
		t.Error("copies:", copies)
	}
}

type deltaMaker struct{ *rand.Rand }

func (m deltaMaker) row(most int) []byte {
	row, letters := []byte{}, m.Intn(4)+1
	for range m.Intn(most + 1) {
		row = append(row, byte('a'+m.Intn(letters)))
	}
	return row
}

// edited puts pieces of old and others one behind the other.
func (m deltaMaker) edited(old []byte) []byte {
	new := []byte{}
	for range m.Intn(8) {
		if len(old) > 0 && m.Intn(3) > 0 {
			at := m.Intn(len(old))
			new = append(new, old[at:at+min(m.Intn(40), len(old)-at)]...)
			continue
		}
		new = append(new, m.row(10)...)
	}
	return new
}

func (m deltaMaker) steps(old []byte) []impl.Step {
	ds := []impl.Step{}
	for range m.Intn(8) {
		switch m.Intn(10) {
		case 0, 1, 2, 3, 4:
			at := m.Intn(len(old))
			ds = append(ds, impl.Step{Kind: 1, At: int64(at), N: int64(m.Intn(len(old)-at) + 1)})
		case 5:
			if m.Intn(4) == 0 {
				ds = append(ds, impl.Step{Kind: 1, At: int64(m.Intn(2*len(old)) - 2), N: int64(m.Intn(2*len(old)) - 2)})
			}
		default:
			ds = append(ds, impl.Step{Kind: 2, Data: append(m.row(200), byte(m.Intn(256)))})
		}
	}
	return ds
}

func TestDeltasByChance(t *testing.T) {
	m := deltaMaker{rand.New(rand.NewSource(14))}
	kinds := map[int64]int{}
	for range 20000 {
		old := m.row(120)
		for _, d := range deltaHolds(t, old, m.edited(old)) {
			kinds[d.Kind]++
		}
	}
	for range 100 {
		old := m.row(3000)
		for _, new := range [][]byte{m.row(3000), m.edited(old), append(m.edited(old), old[:len(old)/2]...)} {
			for _, d := range deltaHolds(t, old, new) {
				kinds[d.Kind]++
			}
		}
	}
	if kinds[1] < 10000 || kinds[2] < 10000 {
		t.Error(kinds)
	}
}

func TestAnyStepsByChance(t *testing.T) {
	m := deltaMaker{rand.New(rand.NewSource(15))}
	seen := map[bool]int{}
	for range 20000 {
		old := append(m.row(300), 'x')
		ds := m.steps(old)
		want, ok := plainApply(old, ds)
		applyIs(t, old, ds, want, ok)
		if plainStepsOk(ds) {
			bytesHold(t, ds)
		} else if b := impl.DeltaBytes(ds); len(b) > 0 {
			t.Fatalf("%v are the bytes %q", ds, b)
		}
		seen[ok]++
	}
	if seen[true] < 10000 || seen[false] < 1000 {
		t.Error(seen)
	}
}

func TestDeltaBytes(t *testing.T) {
	for steps, want := range map[string]string{
		"": "LDT1", "+x": "LDT1\x02\x01x", "0,1": "LDT1\x01\x00\x01", "+x +y": "LDT1\x02\x01x\x02\x01y", "+say: 0,12 +!": "LDT1\x02\x04say:\x01\x00\x0c\x02\x01!",
		"1,2 3,4": "LDT1\x01\x01\x02\x01\x03\x04", "127,127": "LDT1\x01\x7f\x7f", "128,128": "LDT1\x01\x80\x01\x80\x01", "127,128": "LDT1\x01\x7f\x80\x01", "16383,16384": "LDT1\x01\xff\x7f\x80\x80\x01", "16384,16383": "LDT1\x01\x80\x80\x01\xff\x7f",
		"2097151,2097152": "LDT1\x01\xff\xff\x7f\x80\x80\x80\x01", "268435455,268435455": "LDT1\x01\xff\xff\xff\x7f\xff\xff\xff\x7f", "0,268435455": "LDT1\x01\x00\xff\xff\xff\x7f",
		"268435456,1": "", "0,268435456": "", "+x 268435456,1 +y": "", "4294967296,1": "", "0,4294967297": "", "0,0": "", "+": "", "+x 0,0": "",
	} {
		if got := impl.DeltaBytes(stepsOf(steps)); string(got) != want {
			t.Errorf("%q are the bytes %q, not %q", steps, got, want)
		}
		if want != "" {
			bytesHold(t, stepsOf(steps))
		}
	}
	for _, n := range []int{1, 126, 127, 128, 129, 16382, 16383, 16384, 16385, 2097151, 2097152} {
		bytesHold(t, []impl.Step{{Kind: 2, Data: runOf('d', n)}})
		bytesHold(t, []impl.Step{{Kind: 1, At: int64(n), N: int64(n)}, {Kind: 2, Data: runOf('d', n)}, {Kind: 1, At: 0, N: int64(n)}})
	}
}

func TestReadDeltaOfOtherBytes(t *testing.T) {
	for _, steps := range []string{"", "+x", "0,1", "+x 0,1", "1,2 +abc 3,4", "+say: 0,12 +!", "127,128 16383,16384 +" + strings.Repeat("d", 130) + " 268435455,268435455", "+\x01\x01\x01 1,1 +\x02\x02 +\x01"} {
		written := impl.DeltaBytes(stepsOf(steps))
		if !readsDelta(t, written) {
			t.Fatalf("%.80q is not read", steps)
		}
		ends := 0
		for end := range written {
			if readsDelta(t, written[:end]) {
				ends++
			}
		}
		// A prefix is read where it ends with a step, and nowhere else.
		if ends != len(stepsOf(steps)) {
			t.Fatalf("of %q %d prefixes are read", written, ends)
		}
		for _, behind := range []string{"\x00", "\x01", "\x02", "\x03", "x", "\x80", "LDT1", "\x01\x00", "\x01\x00\x00", "\x02\x00", "\x02\x02x", "\x01\x00\x81", "\x01\x80", "\x01\x80\x00\x01"} {
			if readsDelta(t, append(slices.Clone(written), behind...)) {
				t.Fatalf("%.80q is read with %q behind", steps, behind)
			}
		}
		if readsDelta(t, append([]byte{0}, written...)) || readsDelta(t, append([]byte("LDT1"), written...)) {
			t.Fatalf("%.80q is read with bytes ahead", steps)
		}
		for at := range written {
			for _, other := range allBytes() {
				one := slices.Clone(written)
				one[at] = other
				if readsDelta(t, one) && at < 4 && other != written[at] {
					t.Fatalf("%q is read", one)
				}
			}
			readsDelta(t, slices.Delete(slices.Clone(written), at, at+1))
			readsDelta(t, slices.Insert(slices.Clone(written), at, written[at]))
		}
	}
	for _, s := range []string{"", "L", "LD", "LDT", "LDT0", "LDT2", "ldt1", "LDT 1", "LAR1", "LDT1\x00", "\x00LDT1", "LDT1LDT1", "LDTLDT1", "LDT1\x03\x01x", "LDT1\x00\x01x", "LDT1\x81\x00\x01", "LDT1\x02\x01", "LDT1\x01\x00"} {
		if readsDelta(t, []byte(s)) {
			t.Errorf("%q is read", s)
		}
	}
	if !readsDelta(t, []byte("LDT1")) || readsDelta(t, nil) {
		t.Error("LDT1 alone is the delta of no steps, and nothing is none")
	}
}

func TestReadDeltaWithOtherNumbers(t *testing.T) {
	shapes := func(number string) []string {
		return []string{"LDT1\x01" + number + "\x01", "LDT1\x01\x01" + number, "LDT1\x02" + number + "x", "LDT1\x02\x01y\x01" + number + "\x01\x02\x01z"}
	}
	for _, s := range shapes("\x01") {
		if !readsDelta(t, []byte(s)) {
			t.Errorf("%q is not read", s)
		}
	}
	for _, number := range []string{
		"\x81\x00", "\x81\x80\x00", "\x81\x80\x80\x00", "\x81\x80\x80\x80\x00", "\x80\x80\x80\x80\x00", "\x81" + strings.Repeat("\x80", 8) + "\x00", "\x81" + strings.Repeat("\x80", 9) + "\x00", "\x81" + strings.Repeat("\x80", 9) + "\x02", "\x81" + strings.Repeat("\x80", 30) + "\x00",
		"\x81\x80\x80\x80\x01", "\x80\x80\x80\x80\x01", "\x81\x80\x80\x80\x10", "\xff\xff\xff\xff\x00", "\xff\xff\xff\xff\x7f", "\x81" + strings.Repeat("\x80", 8) + "\x01", strings.Repeat("\xff", 9) + "\x01", strings.Repeat("\xff", 8) + "\x7f", strings.Repeat("\xff", 40), strings.Repeat("\x80", 40), "\x80\x00",
	} {
		for _, s := range shapes(number) {
			if readsDelta(t, []byte(s)) {
				t.Errorf("%q is read", s)
			}
		}
	}
	for _, s := range []string{"LDT1\x01\x00\x00", "LDT1\x01\x05\x00", "LDT1\x02\x00", "LDT1\x02\x00x", "LDT1\x02\x02x", "LDT1\x02\xff\xff\xff\x7fx", "LDT1\x02" + strings.Repeat("\xff", 9) + "\x01x"} {
		if readsDelta(t, []byte(s)) {
			t.Errorf("%q is read", s)
		}
	}
	for _, s := range []string{"LDT1\x01\x00\x01", "LDT1\x01\x80\x01\x80\x01", "LDT1\x01\xff\xff\xff\x7f\xff\xff\xff\x7f", "LDT1\x01\x80\x80\x80\x01\x01"} {
		if !readsDelta(t, []byte(s)) {
			t.Errorf("%q is not read", s)
		}
	}
	for kind := range 256 {
		for _, rest := range []string{"\x01\x01", "\x01x", "\x00\x01", "\x01\x00"} {
			s := "LDT1" + string([]byte{byte(kind)}) + rest
			want := kind == 2 && rest[0] == 1 || kind == 1 && rest[1] > 0
			if readsDelta(t, []byte(s)) != want {
				t.Errorf("%q is read: %v", s, !want)
			}
		}
	}
}

// Of all short rows of bytes behind the first four, those are read that are the bytes of a delta.
func TestReadDeltaOfEveryShortRow(t *testing.T) {
	read := 0
	everyText("\x00\x01\x02\x03a\x80\xff", 6, func(s string) {
		if readsDelta(t, []byte("LDT1"+s)) {
			read++
		}
	})
	if read < 100 {
		t.Error("read:", read)
	}
}

func TestReadDeltaByChance(t *testing.T) {
	m := deltaMaker{rand.New(rand.NewSource(16))}
	seen := map[bool]int{}
	for range 20000 {
		old := m.row(50)
		written := impl.DeltaBytes(impl.MakeDelta(old, m.edited(old)))
		for range m.Intn(3) {
			at := m.Intn(len(written))
			switch m.Intn(4) {
			case 0:
				written[at] = byte(m.Intn(256))
			case 1:
				written = slices.Insert(written, at, byte(m.Intn(256)))
			case 2:
				written = slices.Delete(written, at, at+1)
			case 3:
				written[at]++
			}
		}
		seen[readsDelta(t, written)]++
	}
	if seen[true] < 5000 || seen[false] < 5000 {
		t.Error(seen)
	}
}

func TestSaved(t *testing.T) {
	for _, row := range []struct {
		old, new string
		want     int64
	}{
		{"", "", -4}, {"abc", "", -4}, {"abcdefgh", "", -4}, {"", "a", -6}, {"", "abcdef", -6}, {"abcdef", "abcdef", 6 - 7}, {"abcdefg", "abcdefg", 7 - 7}, {"abcdefgh", "abcdefgh", 8 - 7}, {"hello, world", "say: hello, world!", 1}, {"abcdef", "abcdefx", 7 - 10}, {"abcde", "abcde", -6},
		{strings.Repeat("a", 1000), strings.Repeat("a", 1000), 1000 - 8}, {strings.Repeat("a", 3000), strings.Repeat("a", 3000), 3000 - 16}, {"", strings.Repeat("a", 127), -6}, {"", strings.Repeat("a", 128), -7}, {"", strings.Repeat("a", 3000), -7},
		{"", strings.Repeat("a", 3001), 0}, {strings.Repeat("a", 3001), "a", 0}, {strings.Repeat("a", 3001), strings.Repeat("a", 3001), 0}, {strings.Repeat("a", 3001), strings.Repeat("a", 3000), 0}, {strings.Repeat("a", 3000), strings.Repeat("a", 3001), 0},
		{strings.Repeat("a", 3000), "", -4}, {strings.Repeat("a", 3001), "", -4},
	} {
		if got := impl.Saved([]byte(row.old), []byte(row.new)); got != row.want || plainSaved([]byte(row.old), []byte(row.new)) != row.want {
			t.Errorf("from %.20q to %.20q %d are saved, not %d", row.old, row.new, got, row.want)
		}
	}
}

// Many at once and one behind the other answer alike.
func TestDeltasAreTheSameEachTime(t *testing.T) {
	m := deltaMaker{rand.New(rand.NewSource(17))}
	for range 20 {
		old := m.row(600)
		new := append(m.edited(old), m.edited(old)...)
		first := impl.MakeDelta(old, new)
		written := impl.DeltaBytes(first)
		group := sync.WaitGroup{}
		for range 8 {
			group.Go(func() {
				for range 5 {
					ds := impl.MakeDelta(old, new)
					made, ok := impl.ApplyDelta(old, ds)
					read, isRead := impl.ReadDelta(written)
					if !sameSteps(ds, first) || !ok || !bytes.Equal(made, new) || !isRead || !sameSteps(read, first) || !bytes.Equal(impl.DeltaBytes(read), written) || impl.Saved(old, new) != int64(len(new)-len(written)) {
						t.Errorf("from %q to %q: another answer", old, new)
					}
				}
			})
		}
		group.Wait()
	}
}

func TestDeltasAreNewMemory(t *testing.T) {
	old, oldStays := roomyAll([]byte("abcdefghijkl-abcdef"))
	new, newStays := roomyAll([]byte("say: abcdefghij, abcdef-ghijkl!!"))
	ds, stay := roomyAll(append(stepsOf("+xyz 0,19 3,4 +a +bc 2,1"), stepsOf("+y")...))
	wrong, wrongStay := roomyAll(stepsOf("+xyz 0,1 99,1 +x 0,0"))
	b, bytesStay := roomyAll(impl.DeltaBytes(ds))
	cut, cutStays := roomyAll(b[:len(b)-1])
	given := []any{old, new, ds, wrong, b, cut}
	answers, befores := []any{}, []string{}
	see := func(answer any) {
		if !isNew(answer, given...) {
			t.Errorf("%v is not new", answer)
		}
		answers = append(answers, answer)
		befores = append(befores, fmt.Sprint(answer))
	}
	for range 2 {
		for _, steps := range [][]impl.Step{ds, ds[:1], ds[1:2], wrong, nil} {
			made, _ := impl.ApplyDelta(old, steps)
			see(made)
			see(impl.DeltaBytes(steps))
		}
		for _, row := range [][2][]byte{{old, new}, {new, old}, {old, old}, {nil, new}, {old, nil}} {
			see(impl.MakeDelta(row[0], row[1]))
			impl.Saved(row[0], row[1])
		}
		for _, row := range [][]byte{b, cut, nil} {
			read, _ := impl.ReadDelta(row)
			see(read)
		}
	}
	if !oldStays() || !newStays() || !stay() || !wrongStay() || !bytesStay() || !cutStays() {
		t.Error("an argument was changed")
	}
	for i, answer := range answers {
		if fmt.Sprint(answer) != befores[i] {
			t.Errorf("a later call changed %s to %v", befores[i], answer)
		}
		if !isNew(answer, append(slices.Clone(answers[:i]), answers[i+1:]...)...) {
			t.Errorf("%s shares memory with a later answer", befores[i])
		}
	}
}

// What is put behind the Data of one step is not seen in another.
func TestDataOfStepsIsApart(t *testing.T) {
	b := impl.DeltaBytes(stepsOf("+ab +cd 0,3 +ef"))
	read, _ := impl.ReadDelta(b)
	made := impl.MakeDelta([]byte("abcdef"), []byte("XabcdefYabcdefZ"))
	for _, ds := range [][]impl.Step{read, made} {
		before := shownSteps(ds)
		for _, d := range ds {
			_ = append(d.Data, "????????"...)
		}
		if shownSteps(ds) != before {
			t.Errorf("%q became %q", before, shownSteps(ds))
		}
	}
	for i := range b {
		b[i] = '?'
	}
	if shownSteps(read) != "+ab +cd 0,3 +ef" {
		t.Errorf("what was read hangs on what it was read from: %q", shownSteps(read))
	}
}
