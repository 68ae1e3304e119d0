package lex

import (
	"strconv"
	"strings"

	"teasel/api"
)

// reader goes through a text from the left; at the first fault it panics.
type reader struct {
	words
	text string
	at   int
}

func (r *reader) all() []api.Token {
	if len(r.text) > api.MaxSource {
		giveUp(0, api.ErrLong)
	}
	var tokens []api.Token
	for r.skip(); r.at < len(r.text); r.skip() {
		tokens = append(tokens, r.token())
	}
	return append(tokens, api.Token{Kind: api.TokEnd, At: r.at})
}

func giveUp(at int, e api.Errno) {
	panic(fault{at: at, errno: e})
}

// pass moves on as far as the bytes go on.
func (r *reader) pass(goesOn func(b byte) bool) {
	for r.at < len(r.text) && goesOn(r.text[r.at]) {
		r.at++
	}
}

// take passes, and answers what it passed: copied, as a piece would keep the caller's text alive.
func (r *reader) take(goesOn func(b byte) bool) string {
	from := r.at
	r.pass(goesOn)
	return strings.Clone(r.text[from:r.at])
}

// skip passes blanks and remarks. The byte that ends a remark is a blank itself.
func (r *reader) skip() {
	remark := false
	r.pass(func(b byte) bool {
		switch b {
		case '#':
			remark = true
		case '\n':
			remark = false
		}
		return remark || blank(b)
	})
}

// token reads the token at which the reader stands.
func (r *reader) token() api.Token {
	switch first := r.text[r.at]; {
	case small(first):
		return r.name()
	case digit(first):
		return r.number()
	}
	return r.sign()
}

func (r *reader) name() api.Token {
	t := api.Token{Kind: api.TokName, At: r.at}
	t.Text = r.take(func(b byte) bool { return small(b) || digit(b) })
	if len(t.Text) > api.MaxName {
		giveUp(t.At, api.ErrLong)
	}
	if r.has(t.Text) {
		t.Kind = api.TokWord
	}
	return t
}

// number holds a number against its size first: one that is too great is told so, whatever else is wrong with it.
func (r *reader) number() api.Token {
	t := api.Token{Kind: api.TokNum, At: r.at}
	t.Text = r.take(digit)
	n, err := strconv.ParseInt(t.Text, 10, 64)
	if err != nil {
		giveUp(t.At, api.ErrLong)
	}
	if len(t.Text) > 1 && t.Text[0] == '0' {
		giveUp(t.At, api.ErrText)
	}
	if r.at < len(r.text) && letter(r.text[r.at]) {
		giveUp(t.At, api.ErrText)
	}
	t.N = n
	return t
}

func (r *reader) sign() api.Token {
	t := api.Token{Kind: api.TokSign, At: r.at}
	left := signSize(r.text[r.at:])
	if left == 0 {
		giveUp(t.At, api.ErrText)
	}
	t.Text = r.take(func(byte) bool {
		left--
		return left >= 0
	})
	return t
}

// signSize answers how many bytes of a text that isn't empty are the sign at its beginning; 0: there is none.
func signSize(text string) int {
	if len(text) > 1 {
		switch text[:2] {
		case "==", "!=", "<=", ">=", "&&", "||", "<<", ">>":
			return 2
		}
	}
	if strings.IndexByte("(){}[],;:=<>+-*/%&|^!~", text[0]) >= 0 {
		return 1
	}
	return 0
}

func blank(b byte) bool {
	return b == ' ' || b == '\t' || b == '\n' || b == '\r'
}

func small(b byte) bool {
	return 'a' <= b && b <= 'z'
}

func letter(b byte) bool {
	return small(b) || 'A' <= b && b <= 'Z'
}

func digit(b byte) bool {
	return '0' <= b && b <= '9'
}
