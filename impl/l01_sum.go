package impl

import "strings"

const MaxName = 60
const MaxMany = 2000

const (
	sumStart  uint64 = 14695981039346656037
	sumTimes  uint64 = 1099511628211
	lastTimes uint64 = 11400714819323198485
	lastTurns uint64 = 3
	turnShift uint64 = 29
	lastShift uint64 = 32
)

const (
	wordSize          = 13
	letterBits uint64 = 5
	letterMask uint64 = 1<<letterBits - 1
	firstMost  uint64 = 15 // thirteen letters have 65 bits: the first one has room for four alone
)

var wordLetters = [32]byte{
	'0', '1', '2', '3', '4', '5', '6', '7', '8', '9', 'a', 'b', 'c', 'd', 'f', 'g',
	'h', 'i', 'j', 'k', 'l', 'm', 'n', 'p', 'q', 'r', 's', 'v', 'w', 'x', 'y', 'z',
}

func Sum(b []byte) uint64 {
	return lastOfSum(sumOn(sumStart, b))
}

// sumOn is apart from the last turns so that a sum of several pieces needs no copy that joins them.
func sumOn(sum uint64, b []byte) uint64 {
	for _, x := range b {
		sum = (sum ^ uint64(x)) * sumTimes
	}
	return sum
}

func lastOfSum(sum uint64) uint64 {
	for range lastTurns {
		sum = (sum ^ sum>>turnShift) * lastTimes
	}
	return sum ^ sum>>lastShift
}

func Word32(x uint64) string {
	var word [wordSize]byte
	for i := wordSize - 1; i >= 0; i-- {
		word[i] = wordLetters[x&letterMask]
		x >>= letterBits
	}
	return string(word[:])
}

func ReadWord32(s string) (uint64, bool) {
	return readWord(s, letterValues())
}

// readWord is handed the values of letters so that they are put together once for many words.
func readWord(s string, values map[byte]uint64) (uint64, bool) {
	if len(s) != wordSize {
		return 0, false
	}
	x := uint64(0)
	for i := range wordSize {
		value, known := values[s[i]]
		if !known || i == 0 && value > firstMost {
			return 0, false
		}
		x = x<<letterBits | value
	}
	return x, true
}

func letterValues() map[byte]uint64 {
	values := make(map[byte]uint64, len(wordLetters))
	for i, letter := range wordLetters {
		values[letter] = uint64(i)
	}
	return values
}

func Address(kind string, name string, content []byte) string {
	if !NameOk(kind) || !NameOk(name) {
		return ""
	}
	sum := sumOn(sumStart, []byte(kind+":"+name+":"))
	return Word32(lastOfSum(sumOn(sum, content))) + "-" + name
}

func AddressOk(a string) bool {
	return isAddress(a, letterValues())
}

func isAddress(a string, values map[byte]uint64) bool {
	if len(a) <= wordSize || a[wordSize] != '-' {
		return false
	}
	_, ok := readWord(a[:wordSize], values)
	return ok && NameOk(a[wordSize+1:])
}

func NameOk(s string) bool {
	if len(s) < 1 || len(s) > MaxName || s[0] == '.' {
		return false
	}
	for i := range len(s) {
		if !inName(s[i]) {
			return false
		}
	}
	return true
}

func areNames(list []string) bool {
	for _, s := range list {
		if !NameOk(s) {
			return false
		}
	}
	return true
}

func inName(b byte) bool {
	switch b {
	case '-', '_', '.', '+':
		return true
	}
	return isLetter(rune(b)) || isDigit(rune(b))
}

func isLetter(r rune) bool {
	return r >= 'a' && r <= 'z' || r >= 'A' && r <= 'Z'
}

func isDigit(r rune) bool {
	return r >= '0' && r <= '9'
}

func Clash(as []string) (string, bool) {
	if len(as) > MaxMany {
		return "", false
	}
	times := make(map[string]int64, len(as))
	for _, a := range as {
		if times[a] > 0 {
			return strings.Clone(a), true
		}
		times[a]++
	}
	return "", false
}
