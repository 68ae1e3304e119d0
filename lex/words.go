package lex

import (
	"strings"
	"sync"
)

const wordList = "fn let if else while return print true false read len int bool arr"

// words are the language's words, made ready when they are first asked for.
type words struct {
	once  sync.Once
	known map[string]struct{}
}

func (w *words) has(text string) bool {
	w.once.Do(w.learn)
	_, ok := w.known[text]
	return ok
}

func (w *words) learn() {
	w.known = map[string]struct{}{}
	for _, text := range strings.Fields(wordList) {
		w.known[text] = struct{}{}
	}
}
