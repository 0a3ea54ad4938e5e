package reader

import (
	"strings"

	"invariants/api"
)

type kind int

const (
	none kind = iota // what is no token
	end              // of the text
	word
	number
	sign
)

// token has its text, which end and none have not: so they are never taken for another one.
type token struct {
	api.Place
	kind kind
	text string
}

// scan finds the token at or behind a place. What is no token is told only when it's come to, for an earlier token may be at fault.
func scan(src string, at int) token {
	for at < len(src) && (src[at] == ' ' || src[at] == '\n') {
		at++
	}
	what, size := measure(src[at:])
	return token{Place: api.Place{At: at}, kind: what, text: src[at : at+size]}
}

// measure tells the kind and the length of the token that a text begins with.
func measure(src string) (kind, int) {
	if src == "" {
		return end, 0
	}
	if n := run(src, isLetter); n > 0 {
		return word, n
	}
	if n := run(src, isDigit); n > 0 {
		return number, n
	}
	if n := signSize(src); n > 0 {
		return sign, n
	}
	return none, 0
}

// run counts the bytes of a kind at the head of a text.
func run(src string, is func(byte) bool) int {
	n := 0
	for n < len(src) && is(src[n]) {
		n++
	}
	return n
}

func isLetter(c byte) bool { return 'a' <= c && c <= 'z' }

func isDigit(c byte) bool { return '0' <= c && c <= '9' }

// signSize is the length of the longest sign at the head of a text, 0 if there is none.
func signSize(src string) int {
	const single, ahead = "<>=+-*/%(){};", "<>=!"
	if len(src) > 1 && src[1] == '=' && strings.IndexByte(ahead, src[0]) >= 0 {
		return 2
	}
	if strings.IndexByte(single, src[0]) >= 0 {
		return 1
	}
	return 0
}
