package impl

import (
	"iter"
	"strings"
)

const MaxWord = 60
const MaxInt = 9007199254740992
const MaxText = 4000
const MaxSource = 20000

const (
	LexWord = 1 + iota
	LexInt
	LexText
	LexSign
)

type Lexeme struct {
	Kind int64
	Text string
	N    int64
	At   int64
}

// The longest come first, so that the first one that fits is the longest that does.
var signs = [...]string{
	"...",
	"->", "//", "++", "&&", "||", "==", "!=", "<=", ">=",
	"{", "}", "[", "]", "(", ")", ";", ":", ",", ".", "?", "=", "<", ">", "+", "-", "*", "/", "!",
}

type escape struct {
	shown byte
	meant byte
}

var escapes = [...]escape{{'n', '\n'}, {'t', '\t'}, {'"', '"'}, {'\\', '\\'}}

func Lex(src string) ([]Lexeme, int64) {
	all := []Lexeme{}
	if len(src) > MaxSource {
		return all, 0
	}
	for lexeme, begins := range lexemesOf(src) {
		if !begins {
			return all, lexeme.At
		}
		all = append(all, lexeme)
	}
	return all, -1
}

// lexemesOf gives false with the last one if that is no lexeme but the place at which none begins.
func lexemesOf(src string) iter.Seq2[Lexeme, bool] {
	return func(yield func(Lexeme, bool) bool) {
		at := pastBlanks(src, 0)
		for at < len(src) {
			lexeme, size := lexemeAt(src, at)
			lexeme.At = int64(at)
			if !yield(lexeme, size > 0) || size == 0 {
				return
			}
			at = pastBlanks(src, at+size)
		}
	}
}

func pastBlanks(src string, at int) int {
	for at < len(src) {
		switch src[at] {
		case ' ', '\t', '\n':
			at++
		case '#':
			at = lineEnd(src, at)
		default:
			return at
		}
	}
	return at
}

func lineEnd(src string, at int) int {
	for at < len(src) && src[at] != '\n' {
		at++
	}
	return at
}

// lexemeAt answers how many bytes the lexeme takes, 0 when none begins there.
func lexemeAt(src string, at int) (Lexeme, int) {
	rest := src[at:]
	first := rune(rest[0])
	switch {
	case inWord(first, true):
		return wordOf(rest)
	case isDigit(first):
		return intOf(rest)
	case first == '"':
		return textOf(rest)
	}
	return signOf(rest)
}

func inWord(r rune, first bool) bool {
	switch {
	case r == '-', r == '\'', isDigit(r):
		if first {
			return false
		}
		fallthrough
	case r == '_', isLetter(r):
		return true
	}
	return false
}

func wordOf(rest string) (Lexeme, int) {
	size := 1
	for size < len(rest) && inWord(rune(rest[size]), false) {
		size++
	}
	if size > MaxWord {
		return Lexeme{}, 0
	}
	return Lexeme{Kind: LexWord, Text: strings.Clone(rest[:size])}, size
}

func intOf(rest string) (Lexeme, int) {
	n := int64(0)
	size := 0
	for size < len(rest) && isDigit(rune(rest[size])) {
		n = n*10 + int64(rest[size]-'0')
		if n > MaxInt {
			return Lexeme{}, 0
		}
		size++
	}
	return Lexeme{Kind: LexInt, N: n}, size
}

func textOf(rest string) (Lexeme, int) {
	meant := []byte{}
	at := 1
	for at < len(rest) && rest[at] != '"' {
		b, size := meantByte(rest[at:])
		if size == 0 || len(meant) == MaxText {
			return Lexeme{}, 0
		}
		meant = append(meant, b)
		at += size
	}
	if at >= len(rest) {
		return Lexeme{}, 0
	}
	return Lexeme{Kind: LexText, Text: string(meant)}, at + 1
}

// meantByte answers how many bytes of a text's inside stand for the one that is meant, 0 when they can't stand there.
func meantByte(inside string) (byte, int) {
	if inside[0] < ' ' {
		return 0, 0
	}
	if inside[0] != '\\' {
		return inside[0], 1
	}
	for _, e := range escapes {
		if len(inside) > 1 && inside[1] == e.shown {
			return e.meant, 2
		}
	}
	return 0, 0
}

func signOf(rest string) (Lexeme, int) {
	for _, sign := range signs {
		if strings.HasPrefix(rest, sign) {
			return Lexeme{Kind: LexSign, Text: sign}, len(sign)
		}
	}
	return Lexeme{}, 0
}

func ShowText(s string) string {
	if len(s) > MaxText {
		return ""
	}
	shown := []byte{'"'}
	for i := range len(s) {
		piece := shownByte(s[i])
		if piece == "" {
			return ""
		}
		shown = append(shown, piece...)
	}
	return string(append(shown, '"'))
}

// shownByte is empty when no text can mean that byte.
func shownByte(b byte) string {
	for _, e := range escapes {
		if b == e.meant {
			return string([]byte{'\\', e.shown})
		}
	}
	if b < ' ' {
		return ""
	}
	return string([]byte{b})
}

func Keyword(s string) bool {
	switch s {
	case "let", "in", "rec", "with", "if", "then", "else", "inherit", "assert", "or":
		return true
	}
	return false
}
