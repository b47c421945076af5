package jws

import (
	"strings"

	"warrant/api"
	"warrant/b64"
	"warrant/json"
	"warrant/scope"
	"warrant/sha"
)

// A header's members, and the one algorithm that there is.
const (
	algMember = "alg"
	kidMember = "kid"
	typMember = "typ"
	algorithm = "HS256"
)

// dot stands between the parts of a text.
const dot = "."

// The parts of a text, by their order.
const (
	headPart = iota
	payloadPart
	tagPart
	partCount
)

// join tells parts with a dot between them.
func join(parts ...string) string { return strings.Join(parts, dot) }

// sign tells the signed text by a key.
func sign(key api.Key, kind, payload string) string {
	body := join(b64.Encode([]byte(header(key, kind))), b64.Encode([]byte(payload)))
	mac := tag(key, body)
	return join(body, b64.Encode(mac[:]))
}

// header tells the header by a key of a ring, of a kind.
func header(key api.Key, kind string) string {
	// Names are always right, and short: there is no error.
	text, _ := json.Print(json.Obj(
		json.Member{Name: algMember, Val: json.Text(algorithm)},
		json.Member{Name: kidMember, Val: json.Text(key.Kid)},
		json.Member{Name: typMember, Val: json.Text(kind)},
	))
	return text
}

// tag tells the tag by a key of all ahead of a text's second dot.
func tag(key api.Key, body string) [32]byte {
	return sha.Mac([]byte(key.Secret), []byte(body))
}

// opened is what is known of a text that is being verified: each check adds
// what those behind it need.
type opened struct {
	body   string // all ahead of the second dot
	parts  [partCount][]byte
	header api.Json
	key    api.Key
}

// cut takes a text apart, and tells whether it has three parts, all of
// base64url.
func (o *opened) cut(text string) bool {
	parts := strings.Split(text, dot)
	if len(parts) != partCount {
		return false
	}
	for i, part := range parts {
		b, err := b64.Decode(part)
		if err != nil {
			return false
		}
		o.parts[i] = b
	}
	o.body = join(parts[:tagPart]...)
	return true
}

// readHeader reads the header, and tells whether it is an object without other
// members.
func (o *opened) readHeader() bool {
	v, err := json.Parse(o.parts[headPart])
	o.header = v
	return err == nil && v.Kind == api.JObj && scope.Within(v.K, []string{algMember, kidMember, typMember})
}

// says tells whether a member of the header is that text.
func (o *opened) says(name, text string) bool {
	v, _ := json.Get(o.header, name)
	return json.Same(v, json.Text(text))
}

// findKey finds the key that the header names, and tells whether there is one.
func (o *opened) findKey(ring []api.Key) bool {
	for _, key := range ring {
		if o.says(kidMember, key.Kid) {
			o.key = key
			return true
		}
	}
	return false
}

// isTagged tells whether the tag is that by the key.
func (o *opened) isTagged() bool {
	mac := tag(o.key, o.body)
	return sha.Same(mac[:], o.parts[tagPart])
}
