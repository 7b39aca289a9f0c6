package nar

import (
	"pantry/api"
	"pantry/tree"
)

// maxText is how many bytes a text has at most.
const maxText = 1 << 21

// reader reads texts one behind the other. Its first error stays: behind it, it reads nothing but empty texts.
type reader struct {
	b     []byte
	at    int // how many bytes are read
	nodes int // how many nodes have begun
	e     api.Errno
}

func (r *reader) fail(e api.Errno) {
	if r.e == api.OK {
		r.e = e
	}
}

// end asks that nothing stands behind what is read.
func (r *reader) end() {
	if r.at < len(r.b) {
		r.fail(api.ErrForm)
	}
}

// check asks what was read, if it was read wholly.
func (r *reader) check(t api.Tree) {
	if r.e == api.OK {
		r.e = tree.Check(t)
	}
}

// tree is what a tree's bytes tell, its Data pieces of them; it may be none.
func (r *reader) tree() api.Tree {
	r.want(magic)
	return r.node(1)
}

// node is one that is so deep, with all below.
func (r *reader) node(deep int) api.Tree {
	r.begin(deep)
	r.want("(", "type")
	switch string(r.text()) {
	case "regular":
		return r.file()
	case "symlink":
		return r.link()
	case "directory":
		return r.dir(deep)
	}
	r.fail(api.ErrForm)
	return api.Tree{}
}

// begin counts a node ahead of its first text, so that there are never more than a tree has.
func (r *reader) begin(deep int) {
	r.nodes++
	if r.nodes > api.MaxTree || deep > api.MaxDeep {
		r.fail(api.ErrLong)
	}
}

func (r *reader) file() api.Tree {
	t := api.Tree{Kind: api.File, Exec: r.either("executable", "contents")}
	if t.Exec {
		r.want("", "contents")
	}
	t.Data = r.text()
	r.want(")")
	return t
}

func (r *reader) link() api.Tree {
	r.want("target")
	t := api.Tree{Kind: api.Link, Data: r.text()}
	r.want(")")
	return t
}

func (r *reader) dir(deep int) api.Tree {
	t := api.Tree{Kind: api.Dir}
	for r.either("entry", ")") {
		r.want("(", "name")
		t.Names = append(t.Names, string(r.text()))
		r.want("node")
		t.Kids = append(t.Kids, r.node(deep+1))
		r.want(")")
	}
	return t
}

// want reads texts that must be these.
func (r *reader) want(texts ...string) {
	for _, text := range texts {
		if string(r.text()) != text {
			r.fail(api.ErrForm)
		}
	}
}

// either reads a text that must be one of two, and tells whether it is the first one.
func (r *reader) either(first, second string) bool {
	text := r.text()
	if string(text) == first {
		return true
	}
	if string(text) != second {
		r.fail(api.ErrForm)
	}
	return false
}

// text is the next one, a piece of what was handed in.
func (r *reader) text() []byte {
	n := r.length()
	piece := r.take(n + padding(n))
	if r.e != api.OK {
		return nil
	}
	for _, c := range piece[n:] {
		if c != 0 {
			r.fail(api.ErrForm)
			return nil
		}
	}
	return piece[:n]
}

// length is how many bytes the next text has. It is held against the bound ahead of being an int, as it may be none.
func (r *reader) length() int {
	var n uint64
	for i, c := range r.take(unit) {
		n |= uint64(c) << (8 * i)
	}
	if n > maxText {
		r.fail(api.ErrForm)
		return 0
	}
	return int(n)
}

// take is the next n bytes, or none behind an error.
func (r *reader) take(n int) []byte {
	if len(r.b)-r.at < n {
		r.fail(api.ErrShort)
	}
	if r.e != api.OK {
		return nil
	}
	r.at += n
	return r.b[r.at-n : r.at]
}
