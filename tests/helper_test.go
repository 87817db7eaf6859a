package tests

import (
	"fmt"
	"reflect"
	"slices"
	"testing"
	"unsafe"
)

// roomy gives a list with room behind it, and a function that tells whether list and room are as they were.
func roomy[T comparable](list []T, filler T) ([]T, func() bool) {
	whole := make([]T, 0, len(list)+8)
	whole = append(whole, list...)
	for range 8 {
		whole = append(whole, filler)
	}
	before := slices.Clone(whole)
	return whole[:len(list)], func() bool { return slices.Equal(whole, before) }
}

// roomyAll gives a copy in which each list, however deep it stands, has room behind it, and a function that tells whether all of them are as they were.
func roomyAll[T any](given T) (T, func() bool) {
	wholes := []reflect.Value{}
	roomy := copied(reflect.ValueOf(&given).Elem(), func(whole reflect.Value) { wholes = append(wholes, whole) })
	before := []any{}
	for _, whole := range wholes {
		before = append(before, copied(whole, nil).Interface())
	}
	return roomy.Interface().(T), func() bool {
		for i, whole := range wholes {
			if !reflect.DeepEqual(whole.Interface(), before[i]) {
				return false
			}
		}
		return true
	}
}

// copied goes into the depth; if saw is not nil it puts room behind each list, and shows it the list with the room.
func copied(from reflect.Value, saw func(whole reflect.Value)) reflect.Value {
	to := reflect.New(from.Type()).Elem()
	switch from.Kind() {
	case reflect.Slice:
		if from.IsNil() && saw == nil {
			return to
		}
		room := 0
		if saw != nil {
			room = 3
		}
		whole := reflect.MakeSlice(from.Type(), from.Len()+room, from.Len()+room)
		for i := range from.Len() {
			whole.Index(i).Set(copied(from.Index(i), saw))
		}
		for i := range room {
			fill(whole.Index(from.Len() + i))
		}
		if saw != nil {
			saw(whole)
		}
		return whole.Slice(0, from.Len())
	case reflect.Struct:
		for i := range from.NumField() {
			to.Field(i).Set(copied(from.Field(i), saw))
		}
	default:
		to.Set(from)
	}
	return to
}

func fill(to reflect.Value) {
	switch to.Kind() {
	case reflect.String:
		to.SetString("room")
	case reflect.Int64:
		to.SetInt(77)
	case reflect.Uint8, reflect.Uint64:
		to.SetUint(77)
	case reflect.Bool:
		to.SetBool(true)
	case reflect.Struct:
		for i := range to.NumField() {
			fill(to.Field(i))
		}
	}
}

type span struct {
	from uintptr
	size uintptr
	list bool
}

// spansOf are the pieces of memory that lists (with the room behind them) and texts take.
func spansOf(v reflect.Value) []span {
	spans := []span{}
	switch v.Kind() {
	case reflect.String:
		s := v.String()
		spans = append(spans, span{from: uintptr(unsafe.Pointer(unsafe.StringData(s))), size: uintptr(len(s))})
	case reflect.Slice:
		spans = append(spans, span{from: v.Pointer(), size: uintptr(v.Cap()) * v.Type().Elem().Size(), list: true})
		for i := range v.Len() {
			spans = append(spans, spansOf(v.Index(i))...)
		}
	case reflect.Struct:
		for i := range v.NumField() {
			spans = append(spans, spansOf(v.Field(i))...)
		}
	case reflect.Interface:
		spans = append(spans, spansOf(v.Elem())...)
	}
	return spans
}

func (a span) meets(b span) bool {
	return a.size > 0 && b.size > 0 && a.from < b.from+b.size && b.from < a.from+a.size
}

// isNew tells whether an answer shares no memory with what was given, and its lists none with each other.
func isNew(answer any, given ...any) bool {
	own := spansOf(reflect.ValueOf(answer))
	for i, a := range own {
		for _, b := range own[:i] {
			if a.list && b.list && a.meets(b) {
				return false
			}
		}
		for _, argument := range given {
			if slices.ContainsFunc(spansOf(reflect.ValueOf(argument)), a.meets) {
				return false
			}
		}
	}
	return true
}

// same takes an empty list and none as one.
func same(a, b any) bool {
	return fmt.Sprintf("%q %v", a, a) == fmt.Sprintf("%q %v", b, b)
}

// everyText calls see with all texts of these bytes that are at most that long.
func everyText(bytes string, most int, see func(string)) {
	see("")
	if most == 0 {
		return
	}
	for i := range len(bytes) {
		first := bytes[i : i+1]
		everyText(bytes, most-1, func(rest string) { see(first + rest) })
	}
}

func TestHelpers(t *testing.T) {
	list, stays := roomy([]int{1, 2}, 7)
	if !stays() || len(list) != 2 {
		t.Error("nothing was written, yet it does not stay")
	}
	_ = append(list, 3)
	if stays() {
		t.Error("a write into the room is not seen")
	}
	type Row struct {
		Texts []string
		N     int64
	}
	rows, stay := roomyAll([]Row{{[]string{"a"}, 1}, {[]string{}, 2}})
	if !stay() || len(rows) != 2 || len(rows[0].Texts) != 1 || rows[0].Texts[0] != "a" || rows[1].N != 2 {
		t.Error("a copy with room is another one, or does not stay", rows)
	}
	_ = append(rows[1].Texts, "b")
	if stay() {
		t.Error("a write into the room of an inner list is not seen")
	}
	if !isNew([]Row{{Texts: []string{"a"}}}, []string{"b"}) || isNew([][]string{rows[0].Texts}, rows) {
		t.Error("new memory is not told from old")
	}
	shared := []string{"x", "y"}
	if isNew([]any{shared, shared[1:]}) || !isNew([]any{shared, slices.Clone(shared)}) || isNew([][]string{shared[:1], shared[1:]}) || isNew([]string{shared[0]}, shared) {
		t.Error("shared memory is not seen")
	}
	seen := map[string]int{}
	everyText("ab", 2, func(s string) { seen[s]++ })
	for _, s := range []string{"", "a", "b", "aa", "ab", "ba", "bb"} {
		if seen[s] == 0 {
			t.Errorf("%q is left out", s)
		}
	}
	if len(seen) != 7 {
		t.Error(seen)
	}
}
