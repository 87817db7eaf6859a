package tests

import (
	"bytes"
	"encoding/binary"

	"loop.example/g00023/impl"
)

// Deltas in plain words: every byte of old is looked at for every byte of new.

func plainStepOk(d impl.Step) bool {
	if d.Kind == 1 {
		return d.At >= 0 && d.N > 0 && len(d.Data) == 0
	}
	return d.Kind == 2 && d.At == 0 && d.N == 0 && len(d.Data) > 0
}

func plainStepsOk(ds []impl.Step) bool {
	for _, d := range ds {
		if !plainStepOk(d) {
			return false
		}
	}
	return len(ds) <= 10000
}

func plainApply(old []byte, ds []impl.Step) ([]byte, bool) {
	if !plainStepsOk(ds) {
		return nil, false
	}
	made := []byte{}
	for _, d := range ds {
		made = append(made, d.Data...)
		for i := range d.N {
			if uint64(d.At)+uint64(i) >= uint64(len(old)) || len(made) > 1000000 {
				return nil, false
			}
			made = append(made, old[d.At+i])
		}
		if len(made) > 1000000 {
			return nil, false
		}
	}
	return made, true
}

// plainMost is the number of bytes at the beginning of both, at most 1000.
func plainMost(a, b []byte) int {
	n := 0
	for n < 1000 && n < len(a) && n < len(b) && a[n] == b[n] {
		n++
	}
	return n
}

func plainMake(old, new []byte) []impl.Step {
	if len(old) > 3000 || len(new) > 3000 {
		return nil
	}
	ds, added := []impl.Step{}, []byte{}
	finish := func() {
		if len(added) > 0 {
			ds, added = append(ds, impl.Step{Kind: 2, Data: added}), nil
		}
	}
	for here := 0; here < len(new); {
		at, most := 0, 0
		for place := range old {
			if n := plainMost(old[place:], new[here:]); n > most {
				at, most = place, n
			}
		}
		if most < 6 {
			added = append(added, new[here])
			here++
			continue
		}
		finish()
		ds = append(ds, impl.Step{Kind: 1, At: int64(at), N: int64(most)})
		here += most
	}
	finish()
	return ds
}

func plainDeltaBytes(ds []impl.Step) []byte {
	if !plainStepsOk(ds) {
		return nil
	}
	written := []byte("LDT1")
	for _, d := range ds {
		if d.At >= 1<<28 || d.N >= 1<<28 {
			return nil
		}
		written = append(written, byte(d.Kind))
		if d.Kind == 1 {
			written = binary.AppendUvarint(written, uint64(d.At))
			written = binary.AppendUvarint(written, uint64(d.N))
		} else {
			written = binary.AppendUvarint(written, uint64(len(d.Data)))
			written = append(written, d.Data...)
		}
	}
	return written
}

// plainWritten refuses a number that has a group more than it needs, or more than four.
func plainWritten(b []byte) (int64, []byte, bool) {
	n := int64(0)
	for i, group := range b {
		if i == 4 {
			return 0, nil, false
		}
		n += int64(group%128) << (7 * i)
		if group < 128 {
			return n, b[i+1:], group > 0 || i == 0
		}
	}
	return 0, nil, false
}

func plainReadDelta(b []byte) ([]impl.Step, bool) {
	rest, isDelta := bytes.CutPrefix(b, []byte("LDT1"))
	ds := []impl.Step{}
	for isDelta && len(rest) > 0 {
		d := impl.Step{Kind: int64(rest[0])}
		first, behind, ok := plainWritten(rest[1:])
		if !ok || d.Kind < 1 || d.Kind > 2 {
			return nil, false
		}
		if d.Kind == 1 {
			d.At = first
			if d.N, rest, ok = plainWritten(behind); !ok {
				return nil, false
			}
		} else {
			if first > int64(len(behind)) {
				return nil, false
			}
			d.Data, rest = behind[:first], behind[first:]
		}
		ds = append(ds, d)
	}
	return ds, isDelta && plainStepsOk(ds)
}

func plainSaved(old, new []byte) int64 {
	if len(new) > 0 && (len(new) > 3000 || len(old) > 3000) {
		return 0
	}
	return int64(len(new)) - int64(len(plainDeltaBytes(plainMake(old, new))))
}
