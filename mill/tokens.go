package mill

import (
	"strconv"
	"strings"
)

const (
	maxTokens = 600
	maxName   = 12
)

// The kinds of tokens. Words and signs are of one kind: each is known by its text.
const (
	endToken = iota
	nameToken
	numberToken
	fixedToken
)

// A token's text is a piece of what is read only if it is a name or a number:
// of a word or sign it is the table's, which a tree may keep.
type token struct {
	kind  int
	at    int
	text  string
	value int64
}

// reader holds one token that is cut but not taken yet. The next one is cut
// only when that is taken: so the first fault from the left is thrown first.
type reader struct {
	text  string
	at    int
	count int
	token token
}

// advance cuts a token ahead of counting it: at one place ErrToken goes ahead
// of ErrLong.
func (r *reader) advance() {
	r.skipBlanks()
	r.token = r.cut()
	if r.token.kind == endToken {
		return
	}
	r.count++
	if r.count > maxTokens {
		panic(&Diag{At: r.token.at, Err: ErrLong})
	}
}

func (r *reader) skipBlanks() {
skip:
	for r.at < len(r.text) {
		switch r.text[r.at] {
		case ' ', '\t', '\n':
			r.at++
		case '#':
			for r.at < len(r.text) && r.text[r.at] != '\n' {
				r.at++
			}
		default:
			break skip
		}
	}
}

func (r *reader) cut() token {
	if r.at == len(r.text) {
		return token{kind: endToken, at: r.at}
	}
	switch c := r.text[r.at]; {
	case isLetter(c):
		return r.cutName()
	case isDigit(c):
		return r.cutNumber()
	}
	return r.cutSign()
}

func (r *reader) cutName() token {
	start := r.at
	for r.at < len(r.text) && isNameByte(r.text[r.at]) {
		r.at++
	}
	text := r.text[start:r.at]
	if len(text) > maxName {
		panic(&Diag{At: start, Err: ErrToken})
	}
	for _, w := range words {
		if w == text {
			return token{kind: fixedToken, at: start, text: w}
		}
	}
	return token{kind: nameToken, at: start, text: text}
}

func (r *reader) cutNumber() token {
	start := r.at
	for r.at < len(r.text) && isDigit(r.text[r.at]) {
		r.at++
	}
	text := r.text[start:r.at]
	value, err := strconv.ParseInt(text, 10, 64)
	if err != nil || text[0] == '0' && len(text) > 1 {
		panic(&Diag{At: start, Err: ErrToken})
	}
	return token{kind: numberToken, at: start, text: text, value: value}
}

func (r *reader) cutSign() token {
	for _, s := range signs {
		if strings.HasPrefix(r.text[r.at:], s) {
			start := r.at
			r.at += len(s)
			return token{kind: fixedToken, at: start, text: s}
		}
	}
	panic(&Diag{At: r.at, Err: ErrToken})
}

func isLetter(c byte) bool { return 'a' <= c && c <= 'z' }

func isDigit(c byte) bool { return '0' <= c && c <= '9' }

func isNameByte(c byte) bool { return isLetter(c) || isDigit(c) || c == '_' }
