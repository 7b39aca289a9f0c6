package drv

import (
	"strings"

	"pantry/api"
	"pantry/digest"
)

const (
	head    = "Derive("
	hashing = "sha256" // what stands ahead of the Hash of a Fixed output
)

// A pen hands a text's pieces on, as long as put says true.
type pen struct {
	put  func(piece string) bool
	shut bool
}

// isLong tells whether a derivation's text has more bytes than it may.
func isLong(d api.Drv) bool {
	n := 0
	p := &pen{put: func(piece string) bool {
		n += len(piece)
		return n <= api.MaxText
	}}
	p.drv(d)
	return p.shut
}

// textOf is a derivation's text, however long that is.
func textOf(d api.Drv) string {
	var text strings.Builder
	p := &pen{put: func(piece string) bool {
		text.WriteString(piece)
		return true
	}}
	p.drv(d)
	return text.String()
}

// sign hands on a piece that stands as it is.
func (p *pen) sign(piece string) {
	if !p.shut {
		p.shut = !p.put(piece)
	}
}

// text hands on a text in quotes; rows of bytes that have no backslash ahead are one piece.
func (p *pen) text(s string) {
	p.sign(`"`)
	for i := 0; i < len(s) && !p.shut; i++ {
		start := i
		for i < len(s) && marked(s[i]) == 0 {
			i++
		}
		p.sign(s[start:i])
		if i < len(s) {
			p.sign(string([]byte{'\\', marked(s[i])}))
		}
	}
	p.sign(`"`)
}

// row hands on texts with commas between.
func (p *pen) row(texts ...string) {
	for i, s := range texts {
		if i > 0 {
			p.sign(",")
		}
		p.text(s)
	}
}

// writeList hands on a list whose members write hands on.
func writeList[T any](p *pen, l []T, write func(*pen, T)) {
	p.sign("[")
	for i, x := range l {
		if i > 0 {
			p.sign(",")
		}
		write(p, x)
	}
	p.sign("]")
}

// drv hands on a derivation.
func (p *pen) drv(d api.Drv) {
	p.sign(head)
	p.text(d.Name)
	p.sign(",")
	writeList(p, d.Outputs, (*pen).output)
	p.sign(",")
	writeList(p, d.Inputs, (*pen).input)
	p.sign(",")
	writeList(p, d.Sources, (*pen).source)
	p.sign(",")
	p.row(d.System, d.Builder)
	p.sign(",")
	writeList(p, d.Args, (*pen).text)
	p.sign(",")
	writeList(p, d.Env, (*pen).variable)
	p.sign(")")
}

func (p *pen) output(out api.Output) {
	kind, hash := "", ""
	if out.Fixed {
		kind, hash = hashing, digest.Hex(out.Hash)
	}
	p.sign("(")
	p.row(out.Name, string(out.Path), kind, hash)
	p.sign(")")
}

func (p *pen) input(in api.Input) {
	p.sign("(")
	p.text(string(in.Drv))
	p.sign(",")
	writeList(p, in.Outs, (*pen).text)
	p.sign(")")
}

func (p *pen) source(source api.Path) { p.text(string(source)) }

func (p *pen) variable(v api.Var) {
	p.sign("(")
	p.row(v.Name, v.Value)
	p.sign(")")
}

// marked is what stands behind a backslash for c, or 0, if c stands as it is.
func marked(c byte) byte {
	switch c {
	case '"', '\\':
		return c
	case '\n':
		return 'n'
	case '\r':
		return 'r'
	case '\t':
		return 't'
	}
	return 0
}
