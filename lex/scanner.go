package lex

import (
	"strings"

	"warrant/api"
	"warrant/dec"
)

// noByte stands for the end of a text: a byte that may stand nowhere within
// quotes.
const noByte = 0

// scanner goes through a text from the left.
type scanner struct {
	text string
	at   int // the place of the byte that is ahead
}

// rest tells what is ahead.
func (r *scanner) rest() string { return r.text[r.at:] }

// ahead tells the byte that is ahead, or noByte.
func (r *scanner) ahead() byte {
	if r.at == len(r.text) {
		return noByte
	}
	return r.text[r.at]
}

// take goes past as many bytes, and tells them.
func (r *scanner) take(size int) string {
	taken := strings.Clone(r.rest()[:size])
	r.at += size
	return taken
}

// fault tells that there is something wrong at the byte that is ahead.
func (r *scanner) fault(why error) error { return at(r.at, why) }

// gap goes past all blanks and remarks that are ahead.
func (r *scanner) gap() { r.at += leadGap(r.rest()) }

// token reads the token that is ahead.
func (r *scanner) token() (t api.Tok, err error) {
	t.Kind, t.Pos = kindOf(r.rest()), r.at
	switch t.Kind {
	case api.TWord:
		t.S, err = r.word()
	case api.TText:
		t.S, err = r.quoted()
	case api.TInt:
		t.N, err = r.number()
	case api.TSign:
		t.S = r.take(leadSign(r.rest()))
	case api.TEnd:
	default:
		err = r.fault(api.ErrLex)
	}
	return t, err
}

// word reads a word.
func (r *scanner) word() (string, error) {
	size := leadWord(r.rest())
	if size > api.MaxName {
		return "", r.fault(api.ErrLex)
	}
	return r.take(size), nil
}

// number reads a number.
func (r *scanner) number() (int64, error) {
	size := dec.Lead(r.rest())
	n, err := dec.Read(r.rest()[:size], -api.MaxInt, api.MaxInt)
	if err != nil {
		return 0, r.fault(err)
	}
	r.at += size
	return n, nil
}

// quoted reads a text within quotes, and tells what it says.
func (r *scanner) quoted() (string, error) {
	var text strings.Builder
	r.at++
	for {
		text.WriteString(r.take(leadPlain(r.rest())))
		switch r.ahead() {
		case quoteSign:
			r.at++
			return text.String(), nil
		case escapeSign:
			r.at++
			if mustBeEscaped(int(r.ahead())) {
				text.WriteString(r.take(1))
				continue
			}
			fallthrough
		default:
			return "", r.fault(api.ErrLex)
		}
	}
}
