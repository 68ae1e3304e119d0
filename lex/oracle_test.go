package lex

import (
	"math/big"
	"math/rand/v2"
	"regexp"
	"slices"
	"strings"
	"testing"

	"teasel/api"
)

var (
	between  = regexp.MustCompile(`^(?:[ \t\n\r]|#[^\n]*(?:\n|$))+`)
	oneName  = regexp.MustCompile(`^[a-z][a-z0-9]*`)
	oneWord  = regexp.MustCompile(`^(?:fn|let|if|else|while|return|print|true|false|read|len|int|bool|arr)$`)
	oneNum   = regexp.MustCompile(`^[0-9]+`)
	nought   = regexp.MustCompile(`^0[0-9]`)
	lettered = regexp.MustCompile(`^[0-9]+[a-zA-Z]`)
	oneSign  = regexp.MustCompile(`^(?:==|!=|<=|>=|&&|\|\||<<|>>|[(){}\[\],;:=<>+\-*/%&|^!~])`)
)

// byPatterns is Scan once more, out of the chapter's words as patterns.
func byPatterns(s string) ([]api.Token, int, api.Errno) {
	if len(s) > api.MaxSource {
		return nil, 0, api.ErrLong
	}
	var l []api.Token
	for at := 0; ; {
		at += len(between.FindString(s[at:]))
		rest := s[at:]
		k := api.Token{At: at}
		switch {
		case rest == "":
			return append(l, k), 0, api.OK
		case oneName.MatchString(rest):
			k.Kind, k.Text = api.TokName, oneName.FindString(rest)
			if oneWord.MatchString(k.Text) {
				k.Kind = api.TokWord
			}
			if len(k.Text) > api.MaxName {
				return nil, at, api.ErrLong
			}
		case oneNum.MatchString(rest):
			k.Kind, k.Text = api.TokNum, oneNum.FindString(rest)
			n, _ := new(big.Int).SetString(k.Text, 10)
			if !n.IsInt64() {
				return nil, at, api.ErrLong
			}
			if nought.MatchString(rest) || lettered.MatchString(rest) {
				return nil, at, api.ErrText
			}
			k.N = n.Int64()
		case oneSign.MatchString(rest):
			k.Kind, k.Text = api.TokSign, oneSign.FindString(rest)
		default:
			return nil, at, api.ErrText
		}
		l = append(l, k)
		at += len(k.Text)
	}
}

func holdAgainstPatterns(t *testing.T, s string) {
	t.Helper()
	a, at, e := Scan(s)
	b, wantAt, want := byPatterns(s)
	if at != wantAt || e != want || !slices.Equal(a, b) {
		t.Fatalf("Scan(%q) = %v %d %d, want %v %d %d", s, a, at, e, b, wantAt, want)
	}
}

func TestAgainstPatterns(t *testing.T) {
	bits := []string{" ", "\t", "\n", "\r", "#", "a", "z", "0", "1", "9", "A", "Z", "$", "\x00", "\xe9", "abcdefghijkl", "if", "while", "922337203685477580", "7", "8", "a1", "=", "<", ">", "&", "|", "!", "(", "}", "[", ",", ";", ":", "+", "-", "*", "/", "%", "^", "~"}
	r := rand.New(rand.NewPCG(1, 2))
	for range 30000 {
		var s strings.Builder
		for range r.IntN(12) {
			s.WriteString(bits[r.IntN(len(bits))])
		}
		holdAgainstPatterns(t, s.String())
	}
	for range 5000 {
		b := make([]byte, r.IntN(30))
		for i := range b {
			b[i] = byte(r.IntN(256))
		}
		holdAgainstPatterns(t, string(b))
	}
}

func FuzzScan(f *testing.F) {
	for _, s := range []string{"", "x1=02", "a<=b", "12a", "# nothing", "fn main(): int { return 1 + 2 * 3; }"} {
		f.Add(s)
	}
	f.Fuzz(func(t *testing.T, s string) { holdAgainstPatterns(t, s) })
}
