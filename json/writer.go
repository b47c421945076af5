package json

import (
	"warrant/api"
	"warrant/dec"
)

// writer gathers the text of a right value. Of texts and names that make it too
// long it writes no more than their beginnings, however long they are.
type writer struct{ text []byte }

// full tells whether the text is too long.
func (w *writer) full() bool { return len(w.text) > api.MaxJson }

// put writes bytes as they are.
func (w *writer) put(s string) { w.text = append(w.text, s...) }

// value writes a value.
func (w *writer) value(v api.Json) {
	switch v.Kind {
	case api.JNull:
		w.put("null")
	case api.JBool:
		w.truth(v.N)
	case api.JInt:
		w.put(dec.Print(v.N))
	case api.JText:
		w.quoted(v.S)
	case api.JList:
		w.items("[", v, "]")
	case api.JObj:
		w.items("{", v, "}")
	}
}

// truth writes true or false.
func (w *writer) truth(n int64) {
	if n == 0 {
		w.put("false")
	} else {
		w.put("true")
	}
}

// items writes what stands in v, each behind its name, if it has one.
func (w *writer) items(opening string, v api.Json, closing string) {
	w.put(opening)
	for i, item := range v.L {
		if i > 0 {
			w.put(",")
		}
		if v.Kind == api.JObj {
			w.quoted(v.K[i])
			w.put(":")
		}
		w.value(item)
	}
	w.put(closing)
}

// quoted writes a text within quotes.
func (w *writer) quoted(s string) {
	w.put(`"`)
	for i := 0; i < len(s) && !w.full(); i++ {
		switch c := s[i]; {
		case c < ' ':
			w.text = append(w.text, '\\', 'u', '0', '0', hexDigits[c>>4], hexDigits[c&15])
		case c == '"', c == '\\':
			w.text = append(w.text, '\\')
			fallthrough
		default:
			w.text = append(w.text, c)
		}
	}
	w.put(`"`)
}
