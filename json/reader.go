package json

import (
	"slices"
	"strings"

	"warrant/api"
	"warrant/dec"
)

const (
	blanks = "\t\n\r "
	// firsts are the bytes with which a value may begin.
	firsts = `ntf"[{-0123456789`
)

// noByte stands for the end of a text. A text may have it nowhere, so that it
// can be told apart from every byte that is looked for.
const noByte = 0

// reader goes through a text from the left.
type reader struct {
	text   string
	at     int // the place of the byte that is ahead
	values int // how many have begun
}

// fault is what a reader gives up with.
type fault struct {
	place int
	why   error
}

// giveUp ends the reading, from however deep within it.
func giveUp(place int, why error) { panic(fault{place, why}) }

// read tells the value of a text, or with what its reader gave up.
func read(text string) (v api.Json, err error) {
	defer func() {
		switch given := recover().(type) {
		case nil:
		case fault:
			v, err = api.Json{}, &api.At{Pos: given.place, Err: given.why}
		default:
			panic(given)
		}
	}()
	r := reader{text: text}
	v = r.value(1)
	r.blanks()
	if r.at < len(text) {
		giveUp(r.at, api.ErrJson)
	}
	return v, nil
}

// ahead tells the byte that is ahead, or noByte.
func (r *reader) ahead() byte {
	if r.at == len(r.text) {
		return noByte
	}
	return r.text[r.at]
}

// blanks goes past all blanks that are ahead.
func (r *reader) blanks() {
	for strings.IndexByte(blanks, r.ahead()) >= 0 {
		r.at++
	}
}

// sign reads the byte c.
func (r *reader) sign(c byte) {
	if r.ahead() != c {
		giveUp(r.at, api.ErrJson)
	}
	r.at++
}

// word reads the bytes of a word.
func (r *reader) word(w string) {
	for i := range len(w) {
		r.sign(w[i])
	}
}

// value reads a value, of that depth.
func (r *reader) value(depth int) api.Json {
	r.blanks()
	first := r.ahead()
	if strings.IndexByte(firsts, first) < 0 {
		giveUp(r.at, api.ErrJson)
	}
	r.values++
	if r.values > api.MaxValues {
		giveUp(r.at, api.ErrMany)
	}
	switch first {
	case 'n':
		r.word("null")
		return api.Json{}
	case 't':
		r.word("true")
		return Bool(true)
	case 'f':
		r.word("false")
		return Bool(false)
	case '"':
		return Text(r.quoted())
	case '[':
		return r.list(depth)
	case '{':
		return r.object(depth)
	}
	return Int(r.number())
}

// number reads a number.
func (r *reader) number() int64 {
	rest := r.text[r.at:]
	size := dec.Lead(rest)
	if size == 0 { // a - ahead of what is no number above 0
		giveUp(r.at+1, api.ErrJson)
	}
	n, err := dec.Read(rest[:size], -api.MaxInt, api.MaxInt)
	if err != nil {
		giveUp(r.at, err)
	}
	r.at += size
	return n
}

// list reads a list, of that depth.
func (r *reader) list(depth int) api.Json {
	v := api.Json{Kind: api.JList}
	r.items(depth, ']', func() {
		v.L = append(v.L, r.value(depth+1))
	})
	return v
}

// object reads an object, of that depth.
func (r *reader) object(depth int) api.Json {
	var members []Member
	r.items(depth, '}', func() {
		name := r.name(members)
		r.blanks()
		r.sign(':')
		members = append(members, Member{name, r.value(depth + 1)})
	})
	return Obj(members...)
}

// items reads an opening sign, which is ahead, items by item with commas
// between them, or none, and the closing sign.
func (r *reader) items(depth int, closing byte, item func()) {
	if depth > api.MaxDeep {
		giveUp(r.at, api.ErrDeep)
	}
	r.at++
	r.blanks()
	if r.ahead() == closing {
		r.at++
		return
	}
	for more := true; more; more = r.goesOn(closing) {
		item()
	}
}

// goesOn reads the sign behind an item, and tells whether it is a comma and not
// the closing one.
func (r *reader) goesOn(closing byte) bool {
	r.blanks()
	if r.ahead() == ',' {
		r.at++
		return true
	}
	r.sign(closing)
	return false
}

// name reads the name of one more member.
func (r *reader) name(members []Member) string {
	r.blanks()
	place := r.at
	name := r.quoted()
	if slices.ContainsFunc(members, func(m Member) bool { return m.Name == name }) {
		giveUp(place, api.ErrTwice)
	}
	return name
}
