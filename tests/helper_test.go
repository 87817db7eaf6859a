package tests

import (
	"slices"
	"testing"
)

// roomy gives a list with room behind it, and a function that tells whether list and room are as they were.
func roomy[T comparable](list []T, filler T) ([]T, func() bool) {
	whole := make([]T, 0, len(list)+8)
	whole = append(whole, list...)
	for range 8 {
		whole = append(whole, filler)
	}
	before := slices.Clone(whole)
	return whole[:len(list)], func() bool { return slices.Equal(whole, before) }
}

// everyText calls see with all texts of these bytes that are at most that long.
func everyText(bytes string, most int, see func(string)) {
	see("")
	if most == 0 {
		return
	}
	for i := range len(bytes) {
		first := bytes[i : i+1]
		everyText(bytes, most-1, func(rest string) { see(first + rest) })
	}
}

func TestHelpers(t *testing.T) {
	list, stays := roomy([]int{1, 2}, 7)
	if !stays() || len(list) != 2 {
		t.Error("nothing was written, yet it does not stay")
	}
	_ = append(list, 3)
	if stays() {
		t.Error("a write into the room is not seen")
	}
	seen := map[string]int{}
	everyText("ab", 2, func(s string) { seen[s]++ })
	for _, s := range []string{"", "a", "b", "aa", "ab", "ba", "bb"} {
		if seen[s] == 0 {
			t.Errorf("%q is left out", s)
		}
	}
	if len(seen) != 7 {
		t.Error(seen)
	}
}
