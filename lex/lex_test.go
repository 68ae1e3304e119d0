package lex

import (
	"slices"
	"strings"
	"sync"
	"testing"
	"unsafe"

	"teasel/api"
)

// wantTokens holds what Scan answers of a text against the tokens that it must have, ahead of the end.
func wantTokens(t *testing.T, s string, want ...api.Token) {
	t.Helper()
	want = append(want, api.Token{Kind: api.TokEnd, At: len(s)})
	got, at, e := Scan(s)
	if e != api.OK || at != 0 || !slices.Equal(got, want) {
		t.Errorf("Scan(%.60q) = %v %d %d, want %v", s, got, at, e, want)
	}
}

func wantFault(t *testing.T, s string, at int, e api.Errno) {
	t.Helper()
	tokens, gotAt, got := Scan(s)
	if len(tokens) != 0 || gotAt != at || got != e {
		t.Errorf("Scan(%.60q) = %v %d %d, want the place %d, error %d", s, tokens, gotAt, got, at, e)
	}
}

func name(at int, text string) api.Token {
	return api.Token{Kind: api.TokName, At: at, Text: text}
}

func word(at int, text string) api.Token {
	return api.Token{Kind: api.TokWord, At: at, Text: text}
}

func number(at int, text string, n int64) api.Token {
	return api.Token{Kind: api.TokNum, At: at, Text: text, N: n}
}

func sign(at int, text string) api.Token {
	return api.Token{Kind: api.TokSign, At: at, Text: text}
}

func TestTokens(t *testing.T) {
	wantTokens(t, "a<=b", name(0, "a"), sign(1, "<="), name(3, "b"))
	wantTokens(t, "a<=b # x\n+12", name(0, "a"), sign(1, "<="), name(3, "b"), sign(9, "+"), number(10, "12", 12))
	wantTokens(t, "let x1:int=0;", word(0, "let"), name(4, "x1"), sign(6, ":"), word(7, "int"), sign(10, "="), number(11, "0", 0), sign(12, ";"))
	wantTokens(t, "12;ab1c2 if2", number(0, "12", 12), sign(2, ";"), name(3, "ab1c2"), name(9, "if2"))
	wantTokens(t, "-1", sign(0, "-"), number(1, "1", 1))
	wantTokens(t, "truefalse", name(0, "truefalse"))
	wantTokens(t, "")
}

func TestBlanks(t *testing.T) {
	wantTokens(t, " \t\n\r")
	wantTokens(t, " a\tb\nc\rd ", name(1, "a"), name(3, "b"), name(5, "c"), name(7, "d"))
	for b := range 256 {
		s := "a" + string([]byte{byte(b)}) + "b"
		switch {
		case strings.IndexByte(" \t\n\r", byte(b)) >= 0:
			wantTokens(t, s, name(0, "a"), name(2, "b"))
		case b == '#':
			wantTokens(t, s, name(0, "a"))
		case strings.IndexByte("(){}[],;:=<>+-*/%&|^!~", byte(b)) >= 0:
			wantTokens(t, s, name(0, "a"), sign(1, string(rune(b))), name(2, "b"))
		case b >= 'a' && b <= 'z' || b >= '0' && b <= '9':
			wantTokens(t, s, name(0, s))
		default:
			wantFault(t, s, 1, api.ErrText)
		}
	}
}

func TestRemarks(t *testing.T) {
	wantTokens(t, "# nothing")
	wantTokens(t, "#")
	wantTokens(t, "#\n")
	wantTokens(t, "##\n#")
	wantTokens(t, "a#", name(0, "a"))
	wantTokens(t, "12#34", number(0, "12", 12))
	wantTokens(t, "a # $ A 02 \r\x00\xff # b\nc", name(0, "a"), name(19, "c"))
	wantTokens(t, "a # b\rc", name(0, "a"))
	wantTokens(t, "<#\n=", sign(0, "<"), sign(3, "="))
	wantTokens(t, "a#"+strings.Repeat("9", 100)+"\n", name(0, "a"))
}

func TestNames(t *testing.T) {
	wantTokens(t, "abcdefghijkl", name(0, "abcdefghijkl"))
	wantTokens(t, " a23456789012 ", name(1, "a23456789012"))
	wantFault(t, "abcdefghijklm", 0, api.ErrLong)
	wantFault(t, "a a234567890123", 2, api.ErrLong)
	wantFault(t, "whilewhilewhile", 0, api.ErrLong)
	wantTokens(t, "abcdefghijkl#m", name(0, "abcdefghijkl"))
	wantFault(t, "abcdefghijklM", 12, api.ErrText)
	wantFault(t, "A", 0, api.ErrText)
	wantFault(t, "aB", 1, api.ErrText)
	wantFault(t, "a_b", 1, api.ErrText)
	wantFault(t, "_", 0, api.ErrText)
	wantFault(t, "\xc3\xa9", 0, api.ErrText)
}

func TestNumbers(t *testing.T) {
	wantTokens(t, "0", number(0, "0", 0))
	wantTokens(t, "0 0", number(0, "0", 0), number(2, "0", 0))
	wantTokens(t, "1000", number(0, "1000", 1000))
	wantTokens(t, "9223372036854775807", number(0, "9223372036854775807", 9223372036854775807))
	wantFault(t, "9223372036854775808", 0, api.ErrLong)
	wantFault(t, "-9223372036854775808", 1, api.ErrLong)
	wantFault(t, "18446744073709551616", 0, api.ErrLong)
	wantFault(t, "10000000000000000000", 0, api.ErrLong)
	wantFault(t, strings.Repeat("9", api.MaxSource), 0, api.ErrLong)
	wantFault(t, "x1=02", 3, api.ErrText)
	wantFault(t, "00", 0, api.ErrText)
	wantFault(t, "09223372036854775807", 0, api.ErrText)
	wantFault(t, strings.Repeat("0", 100)+"1", 0, api.ErrText)
}

func TestLettersBehindNumbers(t *testing.T) {
	wantFault(t, "12a", 0, api.ErrText)
	wantFault(t, "0x1", 0, api.ErrText)
	wantFault(t, "+ 1z", 2, api.ErrText)
	wantFault(t, "1A", 0, api.ErrText)
	wantFault(t, "1Z", 0, api.ErrText)
	wantFault(t, "1if", 0, api.ErrText)
	wantFault(t, "1abcdefghijklm", 0, api.ErrText)
	wantTokens(t, "1 a", number(0, "1", 1), name(2, "a"))
	wantTokens(t, "1#a", number(0, "1", 1))
	for _, b := range []string{"_", "@", "`", "\xc3", "$"} {
		wantFault(t, "1"+b, 1, api.ErrText)
	}
}

func TestNumbersWithTwoFaults(t *testing.T) {
	wantFault(t, "09223372036854775808", 0, api.ErrLong)
	wantFault(t, strings.Repeat("0", 50)+strings.Repeat("9", 20), 0, api.ErrLong)
	wantFault(t, "9223372036854775808a", 0, api.ErrLong)
	wantFault(t, "09223372036854775808a", 0, api.ErrLong)
	wantFault(t, "02a", 0, api.ErrText)
}

var signs = []string{"(", ")", "{", "}", "[", "]", ",", ";", ":", "=", "<", ">", "+", "-", "*", "/", "%", "&", "|", "^", "!", "~", "==", "!=", "<=", ">=", "&&", "||", "<<", ">>"}

func TestSigns(t *testing.T) {
	for _, a := range signs {
		wantTokens(t, a, sign(0, a))
		for _, b := range signs {
			wantTokens(t, a+" "+b, sign(0, a), sign(len(a)+1, b))
			if len(a) == 2 {
				wantTokens(t, a+b, sign(0, a), sign(2, b))
			} else if len(b) == 1 && slices.Contains(signs, a+b) {
				wantTokens(t, a+b, sign(0, a+b))
			} else if len(b) == 1 {
				wantTokens(t, a+b, sign(0, a), sign(1, b))
			}
		}
	}
	wantTokens(t, "===", sign(0, "=="), sign(2, "="))
	wantTokens(t, "<<=", sign(0, "<<"), sign(2, "="))
	wantTokens(t, "&&&|||", sign(0, "&&"), sign(2, "&"), sign(3, "||"), sign(5, "|"))
}

func TestFirstFaultFromTheLeft(t *testing.T) {
	wantFault(t, "$ abcdefghijklm", 0, api.ErrText)
	wantFault(t, "abcdefghijklm $", 0, api.ErrLong)
	wantFault(t, "a 02 9223372036854775808", 2, api.ErrText)
	wantFault(t, "a 9223372036854775808 02", 2, api.ErrLong)
	wantFault(t, "# $\n a A", 7, api.ErrText)
}

func TestLongTexts(t *testing.T) {
	wantTokens(t, strings.Repeat(" ", api.MaxSource))
	wantTokens(t, strings.Repeat(" ", api.MaxSource-1)+"a", name(api.MaxSource-1, "a"))
	wantTokens(t, "#"+strings.Repeat("$", api.MaxSource-1))
	wantFault(t, strings.Repeat(" ", api.MaxSource+1), 0, api.ErrLong)
	wantFault(t, "$"+strings.Repeat(" ", api.MaxSource), 0, api.ErrLong)
	wantFault(t, "#"+strings.Repeat(" ", api.MaxSource), 0, api.ErrLong)
	wantFault(t, "a 02"+strings.Repeat(" ", 1<<20), 0, api.ErrLong)
}

func TestWord(t *testing.T) {
	all := []string{"fn", "let", "if", "else", "while", "return", "print", "true", "false", "read", "len", "int", "bool", "arr"}
	for _, s := range all {
		if !Word(s) {
			t.Errorf("Word(%q) is false", s)
		}
		wantTokens(t, s, word(0, s))
		for _, x := range []string{s + "x", "x" + s, s + "1", s[1:]} {
			if Word(x) {
				t.Errorf("Word(%q) is true", x)
			}
			wantTokens(t, x, name(0, x))
		}
		for _, x := range []string{s[:1], s[:len(s)-1], " " + s, s + " ", s + "\x00", strings.ToUpper(s), s + s} {
			if Word(x) {
				t.Errorf("Word(%q) is true", x)
			}
		}
	}
	for _, x := range []string{"", "main", "var", "for", "12", "(", strings.Join(all, " "), strings.Repeat("if", api.MaxSource)} {
		if Word(x) {
			t.Errorf("Word(%.20q) is true", x)
		}
	}
}

func TestAnswersAreNewMemory(t *testing.T) {
	s := "while abc <= 12 # x"
	a, _, _ := Scan(s)
	b, _, _ := Scan(s)
	clear(a[:cap(a)])
	wantTokens(t, s, b[:len(b)-1]...)
	first := uintptr(unsafe.Pointer(unsafe.StringData(s)))
	for _, k := range b[:len(b)-1] {
		if at := uintptr(unsafe.Pointer(unsafe.StringData(k.Text))); at >= first && at < first+uintptr(len(s)) {
			t.Errorf("the text of %v is a piece of the argument", k)
		}
	}
}

func TestManyAtOnce(t *testing.T) {
	var all sync.WaitGroup
	for range 8 {
		all.Go(func() {
			for range 50 {
				wantTokens(t, "while abc", word(0, "while"), name(6, "abc"))
				wantFault(t, "while $", 6, api.ErrText)
			}
		})
	}
	all.Wait()
}
