package drv

import (
	"strings"

	"pantry/api"
	"pantry/digest"
)

// A fault is what a reader panics with.
type fault struct{}

// A reader goes through a derivation's text; with the first thing that is none of one it panics.
type reader struct {
	text string
	at   int
}

// refuse panics, if what was read is no derivation's.
func (r *reader) refuse(wrong bool) {
	if wrong {
		panic(fault{})
	}
}

// has goes past a sign, if it stands next.
func (r *reader) has(sign string) bool {
	if !strings.HasPrefix(r.text[r.at:], sign) {
		return false
	}
	r.at += len(sign)
	return true
}

// sign goes past a sign that must stand next.
func (r *reader) sign(sign string) { r.refuse(!r.has(sign)) }

// next goes past a byte, whichever it is.
func (r *reader) next() byte {
	r.refuse(r.at == len(r.text))
	r.at++
	return r.text[r.at-1]
}

// quoted is a text in quotes.
func (r *reader) quoted() string {
	var s strings.Builder
	r.sign(`"`)
	for {
		c := r.next()
		if c == '"' {
			return s.String()
		}
		if c == '\\' {
			c = r.meant()
		} else {
			r.refuse(marked(c) != 0)
		}
		s.WriteByte(c)
	}
}

// meant is the byte for which a backslash and the next byte stand.
func (r *reader) meant() byte {
	mark := r.next()
	for _, c := range []byte("\"\\\n\r\t") {
		if marked(c) == mark {
			return c
		}
	}
	panic(fault{})
}

// readList is a list whose members read tells.
func readList[T any](r *reader, read func(*reader) T) []T {
	r.sign("[")
	if r.has("]") {
		return nil
	}
	l := []T{read(r)}
	for r.has(",") {
		l = append(l, read(r))
	}
	r.sign("]")
	return l
}

// drv is a derivation, as it stands there.
func (r *reader) drv() api.Drv {
	var d api.Drv
	r.sign(head)
	d.Name = r.quoted()
	r.sign(",")
	d.Outputs = readList(r, (*reader).output)
	r.sign(",")
	d.Inputs = readList(r, (*reader).input)
	r.sign(",")
	d.Sources = readList(r, (*reader).source)
	r.sign(",")
	d.System = r.quoted()
	r.sign(",")
	d.Builder = r.quoted()
	r.sign(",")
	d.Args = readList(r, (*reader).quoted)
	r.sign(",")
	d.Env = readList(r, (*reader).variable)
	r.sign(")")
	r.refuse(r.at != len(r.text))
	return d
}

func (r *reader) output() api.Output {
	var out api.Output
	r.sign("(")
	out.Name = r.quoted()
	r.sign(",")
	out.Path = api.Path(r.quoted())
	r.sign(",")
	kind := r.quoted()
	r.sign(",")
	hash := r.quoted()
	r.sign(")")
	if kind == "" && hash == "" {
		return out
	}
	h, e := digest.FromHex(hash)
	r.refuse(kind != hashing || e != api.OK)
	out.Fixed, out.Hash = true, h
	return out
}

func (r *reader) input() api.Input {
	var in api.Input
	r.sign("(")
	in.Drv = api.Path(r.quoted())
	r.sign(",")
	in.Outs = readList(r, (*reader).quoted)
	r.sign(")")
	return in
}

func (r *reader) source() api.Path { return api.Path(r.quoted()) }

func (r *reader) variable() api.Var {
	var v api.Var
	r.sign("(")
	v.Name = r.quoted()
	r.sign(",")
	v.Value = r.quoted()
	r.sign(")")
	return v
}
