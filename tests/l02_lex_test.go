package tests

import (
	"reflect"
	"regexp"
	"strconv"
	"strings"
	"testing"

	"loop.example/g00023/impl"
)

const signsInOrder = "... -> // ++ && || == != <= >= { } [ ] ( ) ; : , . ? = < > + - * / !"

func word(s string, at int64) impl.Lexeme { return impl.Lexeme{Kind: impl.LexWord, Text: s, At: at} }

func number(n int64, at int64) impl.Lexeme { return impl.Lexeme{Kind: impl.LexInt, N: n, At: at} }

func text(s string, at int64) impl.Lexeme { return impl.Lexeme{Kind: impl.LexText, Text: s, At: at} }

func sign(s string, at int64) impl.Lexeme { return impl.Lexeme{Kind: impl.LexSign, Text: s, At: at} }

func lexesAs(t *testing.T, src string, place int64, want ...impl.Lexeme) {
	t.Helper()
	got, at := impl.Lex(src)
	if at != place || len(got) != len(want) || len(got) > 0 && !reflect.DeepEqual(got, want) {
		t.Errorf("Lex of %.80q is %.300v, %d; not %.300v, %d", src, got, at, want, place)
	}
}

func TestLimitsAndKindsOfLexemes(t *testing.T) {
	if impl.MaxWord != 60 || int64(impl.MaxInt) != 9007199254740992 || impl.MaxText != 4000 || impl.MaxSource != 20000 {
		t.Error("limits")
	}
	if impl.LexWord != 1 || impl.LexInt != 2 || impl.LexText != 3 || impl.LexSign != 4 {
		t.Error("kinds")
	}
}

func TestLexOfRecipes(t *testing.T) {
	lexesAs(t, "", -1)
	lexesAs(t, "let x = 1; in x", -1,
		word("let", 0), word("x", 4), sign("=", 6), number(1, 8), sign(";", 9), word("in", 11), word("x", 14))
	lexesAs(t, "{a, b ? 2, ...}: a//b", -1,
		sign("{", 0), word("a", 1), sign(",", 2), word("b", 4), sign("?", 6), number(2, 8), sign(",", 9),
		sign("...", 11), sign("}", 14), sign(":", 15), word("a", 17), sign("//", 18), word("b", 20))
	lexesAs(t, "f\"x\"[1]\n", -1, word("f", 0), text("x", 1), sign("[", 4), number(1, 5), sign("]", 6))
}

func TestLexOfBlanksAndNotes(t *testing.T) {
	for _, src := range []string{" ", "\t", "\n", " \t\n ", "#", "# note", "#\n", "# a\n# b", " # \" \\ $ \r\x00\xff", "##\n\n#"} {
		lexesAs(t, src, -1)
	}
	lexesAs(t, "a # b\nc", -1, word("a", 0), word("c", 6))
	lexesAs(t, "a#b c\n\nd#", -1, word("a", 0), word("d", 7))
	lexesAs(t, "a # b\n$", 6, word("a", 0))
	lexesAs(t, "# \r\x01\nb", -1, word("b", 5))
	lexesAs(t, "\"#\" 1#2", -1, text("#", 0), number(1, 4))
	lexesAs(t, " \t\na", -1, word("a", 3))
}

func TestLexOfWords(t *testing.T) {
	for _, s := range []string{"a", "Z", "_", "a1", "a-b", "a'", "_-'", "a--", "let", "true", "aZ_09-'"} {
		lexesAs(t, s, -1, word(s, 0))
	}
	lexesAs(t, "a->b", -1, word("a-", 0), sign(">", 2), word("b", 3))
	lexesAs(t, "a.b+c", -1, word("a", 0), sign(".", 1), word("b", 2), sign("+", 3), word("c", 4))
	lexesAs(t, "'a", 0)
	lexesAs(t, "-a", -1, sign("-", 0), word("a", 1))
	lexesAs(t, "a\xc3\xa9", 1, word("a", 0))
}

func TestLexOfLongWords(t *testing.T) {
	full := strings.Repeat("a", 59) + "'"
	lexesAs(t, full, -1, word(full, 0))
	lexesAs(t, full+" "+full, -1, word(full, 0), word(full, 61))
	lexesAs(t, full+"b", 0)
	lexesAs(t, "x "+full+"b", 2, word("x", 0))
	lexesAs(t, "1"+full+"0", 1, number(1, 0))
	lexesAs(t, strings.Repeat("a", 20000), 0)
}

func TestLexOfNumbers(t *testing.T) {
	lexesAs(t, "0", -1, number(0, 0))
	lexesAs(t, "0123456789", -1, number(123456789, 0))
	lexesAs(t, "007", -1, number(7, 0))
	lexesAs(t, "12x", -1, number(12, 0), word("x", 2))
	lexesAs(t, "12x34", -1, number(12, 0), word("x34", 2))
	lexesAs(t, "1_2", -1, number(1, 0), word("_2", 1))
	lexesAs(t, "1-2", -1, number(1, 0), sign("-", 1), number(2, 2))
	lexesAs(t, "1.5", -1, number(1, 0), sign(".", 1), number(5, 2))
	lexesAs(t, "1\"\"2", -1, number(1, 0), text("", 1), number(2, 3))
	lexesAs(t, "1'", 1, number(1, 0))
}

func TestLexOfGreatNumbers(t *testing.T) {
	lexesAs(t, "9007199254740991", -1, number(9007199254740991, 0))
	lexesAs(t, "9007199254740992", -1, number(9007199254740992, 0))
	lexesAs(t, strings.Repeat("0", 500)+"9007199254740992", -1, number(9007199254740992, 0))
	lexesAs(t, strings.Repeat("0", 20000), -1, number(0, 0))
	for _, digits := range []string{
		"9007199254740993", "0009007199254740993", "9999999999999999", "10000000000000000", "90071992547409920",
		"9223372036854775807", "9223372036854775808", "18446744073709551616", "18446744073709551617",
		"184467440737095516160", "1" + strings.Repeat("0", 300), strings.Repeat("9", 20000),
	} {
		lexesAs(t, digits, 0)
	}
	lexesAs(t, "a 9007199254740993 b", 2, word("a", 0))
}

func TestLexOfTexts(t *testing.T) {
	lexesAs(t, `""`, -1, text("", 0))
	lexesAs(t, `"a b"`, -1, text("a b", 0))
	lexesAs(t, `"\n\t\"\\"`, -1, text("\n\t\"\\", 0))
	lexesAs(t, `"\\n"`, -1, text(`\n`, 0))
	lexesAs(t, `"a""b"`, -1, text("a", 0), text("b", 3))
	lexesAs(t, `x"a\"b"y`, -1, word("x", 0), text(`a"b`, 1), word("y", 7))
	lexesAs(t, "\"\x7f\x80\xff\xc3\xa9\"", -1, text("\x7f\x80\xff\xc3\xa9", 0))
	for _, src := range []string{`"`, `"a`, `"\"`, `"\`, `"\\\"`, `"\x"`, `"\N"`, `"\ "`, "\"\\\n\"", "\"\\\x01\"", "\"a\nb\"", "\"a\tb\"", "\"\r\"", `"a\0"`} {
		lexesAs(t, src, 0)
		lexesAs(t, "ok "+src, 3, word("ok", 0))
	}
	lexesAs(t, `"a" "b`, 4, text("a", 0))
}

func TestLexOfEachByteInATextAndBehindABackslash(t *testing.T) {
	meant := map[byte]string{'n': "\n", 't': "\t", '"': "\"", '\\': "\\"}
	for b := range 256 {
		inside := string([]byte{byte(b)})
		switch {
		case b < 32:
			lexesAs(t, `"`+inside+`"`, 0)
		case b == '"':
			lexesAs(t, `"`+inside+`"`, 2, text("", 0))
		case b == '\\':
			lexesAs(t, `"`+inside+`"`, 0)
		default:
			lexesAs(t, `"`+inside+`"`, -1, text(inside, 0))
		}
		if m, ok := meant[byte(b)]; ok {
			lexesAs(t, `"\`+inside+`"`, -1, text(m, 0))
		} else {
			lexesAs(t, `"\`+inside+`"`, 0)
		}
	}
}

func TestLexOfLongTexts(t *testing.T) {
	full := strings.Repeat("x", 4000)
	lexesAs(t, `"`+full+`"`, -1, text(full, 0))
	lexesAs(t, `"`+full+`x"`, 0)
	lexesAs(t, `a"`+full+`x"`, 1, word("a", 0))
	lexesAs(t, `"`+full, 0)
	lexesAs(t, `"`+strings.Repeat(`\n`, 4000)+`"`, -1, text(strings.Repeat("\n", 4000), 0))
	lexesAs(t, `"`+strings.Repeat(`\n`, 4001)+`"`, 0)
	lexesAs(t, `"`+full[1:]+`\""`, -1, text(full[1:]+`"`, 0))
	lexesAs(t, `"`+full+`\""`, 0)
}

func TestLexOfSigns(t *testing.T) {
	for _, s := range strings.Split(signsInOrder, " ") {
		lexesAs(t, s, -1, sign(s, 0))
		lexesAs(t, " "+s+" ", -1, sign(s, 1))
	}
	lexesAs(t, "..", -1, sign(".", 0), sign(".", 1))
	lexesAs(t, "....", -1, sign("...", 0), sign(".", 3))
	lexesAs(t, ". ..", -1, sign(".", 0), sign(".", 2), sign(".", 3))
	lexesAs(t, "===", -1, sign("==", 0), sign("=", 2))
	lexesAs(t, "!==", -1, sign("!=", 0), sign("=", 2))
	lexesAs(t, "<=>=", -1, sign("<=", 0), sign(">=", 2))
	lexesAs(t, "-->", -1, sign("-", 0), sign("->", 1))
	lexesAs(t, "+++///", -1, sign("++", 0), sign("+", 2), sign("//", 3), sign("/", 5))
	lexesAs(t, "&&&", 2, sign("&&", 0))
	lexesAs(t, "|", 0)
	lexesAs(t, "a & b", 2, word("a", 0))
	lexesAs(t, "=>", -1, sign("=", 0), sign(">", 1))
}

func TestLexOfEachByteAlone(t *testing.T) {
	for b := range 256 {
		src := string([]byte{byte(b)})
		switch {
		case strings.Contains(" \t\n#", src):
			lexesAs(t, src, -1)
		case strings.Contains("{}[]();:,.?=<>+-*/!", src):
			lexesAs(t, src, -1, sign(src, 0))
		case b >= '0' && b <= '9':
			lexesAs(t, src, -1, number(int64(b-'0'), 0))
		case b == '_' || b >= 'a' && b <= 'z' || b >= 'A' && b <= 'Z':
			lexesAs(t, src, -1, word(src, 0))
		default:
			lexesAs(t, src, 0)
		}
		inWord := b == '_' || b == '-' || b == '\'' || b >= '0' && b <= '9' || b >= 'a' && b <= 'z' || b >= 'A' && b <= 'Z'
		if got, _ := impl.Lex("a" + src); len(got) < 1 || (got[0].Text == "a"+src) != inWord {
			t.Errorf("a word with %q: %v", src, got)
		}
	}
}

func TestLexOfLongSources(t *testing.T) {
	blanks := strings.Repeat(" ", 19999)
	lexesAs(t, blanks+"a", -1, word("a", 19999))
	lexesAs(t, blanks+"$", 19999)
	lexesAs(t, blanks+"a ", 0)
	lexesAs(t, "a "+blanks, 0)
	lexesAs(t, "a"+blanks, -1, word("a", 0))
	lexesAs(t, "#"+blanks, -1)
	lexesAs(t, "#"+blanks+" ", 0)
	if got, at := impl.Lex(strings.Repeat(";", 20000)); at != -1 || len(got) != 20000 || got[19999] != sign(";", 19999) {
		t.Error(len(got), at)
	}
}

// The longest of each kind as a pattern; what is too long or too great is looked at behind the match.
var patterns = []struct {
	kind    int64
	pattern *regexp.Regexp
}{
	{impl.LexWord, regexp.MustCompile(`^[a-zA-Z_][a-zA-Z0-9_'-]*`)},
	{impl.LexInt, regexp.MustCompile(`^[0-9]+`)},
	{impl.LexText, regexp.MustCompile(`^"(?:[^\x00-\x1f"\\]|\\[nt"\\])*"`)},
	{impl.LexSign, regexp.MustCompile(`^(?:\.\.\.|->|//|\+\+|&&|\|\||==|!=|<=|>=|[{}\[\]();:,.?=<>+*/!-])`)},
}

var between = regexp.MustCompile(`^(?:[ \t\n]|#[^\n]*)*`)

func plainLex(src string) ([]impl.Lexeme, int64) {
	all := []impl.Lexeme{}
	at := len(between.FindString(src))
scan:
	for at < len(src) {
		for _, p := range patterns {
			found := p.pattern.FindString(src[at:])
			if found == "" {
				continue
			}
			next := impl.Lexeme{Kind: p.kind, Text: found, At: int64(at)}
			switch p.kind {
			case impl.LexInt:
				next.N, _ = strconv.ParseInt(found, 10, 64)
				next.Text = ""
			case impl.LexText:
				next.Text = strings.NewReplacer(`\n`, "\n", `\t`, "\t", `\"`, `"`, `\\`, `\`).Replace(found[1 : len(found)-1])
			}
			all = append(all, next)
			at += len(found)
			at += len(between.FindString(src[at:]))
			continue scan
		}
		return all, int64(at)
	}
	return all, -1
}

func TestLexOfAllShortTexts(t *testing.T) {
	see := func(src string) {
		want, place := plainLex(src)
		got, at := impl.Lex(src)
		if at != place || len(got) != len(want) || len(got) > 0 && !reflect.DeepEqual(got, want) {
			t.Errorf("Lex of %q is %v, %d; not %v, %d", src, got, at, want, place)
		}
	}
	everyText("an_1-'\"\\# \n$", 4, see)
	everyText(".->/+&|=!<*?", 4, see)
}

func TestLexAnswersNewMemory(t *testing.T) {
	const src = "a \"b\" 1 ..."
	first, _ := impl.Lex(src)
	second, _ := impl.Lex(src)
	for i := range first {
		first[i] = impl.Lexeme{}
	}
	third, _ := impl.Lex(src)
	if len(second) != 4 || !reflect.DeepEqual(second, third) || second[0] != word("a", 0) {
		t.Error(second, third)
	}
}

func TestShowText(t *testing.T) {
	for s, want := range map[string]string{
		"":                   `""`,
		"a":                  `"a"`,
		"a b":                `"a b"`,
		"a\"\t":              `"a\"\t"`,
		"\n\t\"\\":           `"\n\t\"\\"`,
		`\n`:                 `"\\n"`,
		"#'${}":              `"#'${}"`,
		"\x7f\x80\xff":       "\"\x7f\x80\xff\"",
		"\x01":               "",
		"a\x00":              "",
		"a\r\nb":             "",
		"fine till here\x1f": "",
	} {
		if got := impl.ShowText(s); got != want {
			t.Errorf("ShowText of %q is %q, not %q", s, got, want)
		}
	}
}

func TestShowTextOfEachByte(t *testing.T) {
	for b := range 256 {
		s := string([]byte{byte(b)})
		shown := impl.ShowText(s)
		if b < 32 && b != 9 && b != 10 {
			if shown != "" {
				t.Errorf("%q is shown as %q", s, shown)
			}
			continue
		}
		size := 3
		if strings.Contains("\n\t\"\\", s) {
			size = 4
		}
		if len(shown) != size {
			t.Errorf("%q is shown as %q", s, shown)
		}
		lexesAs(t, shown, -1, text(s, 0))
	}
}

func TestShowTextIsReadAgain(t *testing.T) {
	everyText("a\"\\nt\n\t#", 4, func(s string) {
		lexesAs(t, impl.ShowText(s), -1, text(s, 0))
	})
	for _, piece := range []string{"x", "\n", "\"", "\\", "\xff"} {
		full := strings.Repeat(piece, 4000)
		lexesAs(t, impl.ShowText(full), -1, text(full, 0))
		if got := impl.ShowText(full + piece); got != "" {
			t.Errorf("4001 of %q are shown in %d bytes", piece, len(got))
		}
	}
	if impl.ShowText(strings.Repeat("x", 100000)) != "" {
		t.Error("a far too long text is shown")
	}
}

func TestKeyword(t *testing.T) {
	for _, s := range []string{"let", "in", "rec", "with", "if", "then", "else", "inherit", "assert", "or"} {
		if !impl.Keyword(s) {
			t.Errorf("%q is no keyword", s)
		}
		for _, near := range []string{s + "s", s + " ", " " + s, s[1:], strings.ToUpper(s), s + "\x00"} {
			if impl.Keyword(near) {
				t.Errorf("%q is a keyword", near)
			}
		}
	}
	for _, s := range []string{"", "true", "false", "null", "and", "not", "derive", "a", "_", "1", "=", strings.Repeat("let", 10000)} {
		if impl.Keyword(s) {
			t.Errorf("%q is a keyword", s)
		}
	}
}
