package nar

import "pantry/api"

const (
	magic = "nix-archive-1"
	unit  = 8 // a text's bytes are a multiple of so many, and its length has so many
)

// writeTree hands the bytes of what is a tree to put, piece by piece; put must not keep a piece.
func writeTree(t api.Tree, put func([]byte)) {
	writeTexts(put, magic)
	writeNode(t, put)
}

func writeNode(t api.Tree, put func([]byte)) {
	writeTexts(put, "(", "type")
	switch t.Kind {
	case api.File:
		writeTexts(put, "regular")
		if t.Exec {
			writeTexts(put, "executable", "")
		}
		writeTexts(put, "contents")
		writeData(put, t.Data)
	case api.Link:
		writeTexts(put, "symlink", "target")
		writeData(put, t.Data)
	case api.Dir:
		writeTexts(put, "directory")
		writeEntries(t, put)
	}
	writeTexts(put, ")")
}

func writeEntries(t api.Tree, put func([]byte)) {
	for i, name := range t.Names {
		writeTexts(put, "entry", "(", "name", name, "node")
		writeNode(t.Kids[i], put)
		writeTexts(put, ")")
	}
}

// writeTexts hands short texts over in one piece.
func writeTexts(put func([]byte), texts ...string) {
	var piece []byte
	for _, text := range texts {
		piece = appendLength(piece, len(text))
		piece = append(piece, text...)
		piece = appendPadding(piece, len(text))
	}
	put(piece)
}

// writeData hands a text over that may be long, so that it is not copied on its way.
func writeData(put func([]byte), data []byte) {
	put(appendLength(nil, len(data)))
	put(data)
	put(appendPadding(nil, len(data)))
}

// appendLength appends how many bytes a text has, the lowest byte first.
func appendLength(b []byte, n int) []byte {
	for range unit {
		b = append(b, byte(n))
		n >>= 8
	}
	return b
}

// appendPadding appends what stands behind a text of n bytes.
func appendPadding(b []byte, n int) []byte {
	for range padding(n) {
		b = append(b, 0)
	}
	return b
}

// padding is how many bytes stand behind a text of n bytes.
func padding(n int) int { return (unit - n%unit) % unit }
