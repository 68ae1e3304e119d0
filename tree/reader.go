package tree

import "teasel/api"

// reader goes through tokens, the last of which is the end, and counts the brackets that are open; at the first fault it panics. Words and signs are told by their texts: no name, number or end has such a text.
type reader struct {
	tokens []api.Token
	at     int
	open   int
}

func (r *reader) next() api.Token {
	return r.tokens[r.at]
}

func (r *reader) is(text string) bool {
	return r.next().Text == text
}

// wrong gives up at a token that can't stand where it stands.
func (r *reader) wrong() {
	panic(fault{at: r.next().At, errno: api.ErrText})
}

// take moves on behind a token that can stand there: only then does it count whether it is a bracket too deep.
func (r *reader) take() api.Token {
	t := r.next()
	switch t.Text {
	case "(", "[", "{":
		if r.open == api.MaxNest {
			panic(fault{at: t.At, errno: api.ErrDeep})
		}
		r.open++
	case ")", "]", "}":
		r.open--
	}
	r.at++
	return t
}

// accept takes a word or sign if it is the next one.
func (r *reader) accept(text string) bool {
	if !r.is(text) {
		return false
	}
	r.take()
	return true
}

// expect takes a word or sign that must be the next one.
func (r *reader) expect(text string) api.Token {
	if !r.is(text) {
		r.wrong()
	}
	return r.take()
}

// expectKind takes a token of a kind that must be the next one.
func (r *reader) expectKind(kind byte) api.Token {
	if r.next().Kind != kind {
		r.wrong()
	}
	return r.take()
}

// list reads what one closes behind what another one opens: nothing, or items with commas between.
func (r *reader) list(item func()) {
	r.expect("(")
	if !r.is(")") {
		item()
		for r.accept(",") {
			item()
		}
	}
	r.expect(")")
}
