package db

import "pantry/api"

// A key of the tree begins with a byte for its kind. Keys with two paths would be too long, and so would a value with
// as many as one may refer to: so each valid path has a number, and these refer to one another by their numbers. What
// stands behind the kind, and the value:
//   - of a path it is the path; its record,
//   - of a number the number; the path that has it,
//   - of references the number of a path; the numbers of what it refers to, in the order of their paths,
//   - of a referrer the number of a path, and that of one that refers to it; nothing,
//   - of a signature the number of a path, and a place among its signatures; the signature,
//   - of a realisation a derivation, a stroke (no path has one), the name of an output; the path that it is.
const (
	pathKind = 1 + iota
	numberKind
	refsKind
	referrerKind
	sigKind
	realisedKind
)

const (
	numberSize = 4 // bytes of a path's number
	lengthSize = 8 // bytes of a Size
	stroke     = "/"
)

// record is what a valid path's key tells: what of its Info never grows, and its number.
type record struct {
	number  int
	hash    api.Hash
	size    int
	deriver api.Path
}

// textKey is a key of a kind and a text.
func textKey(kind byte, text string) string { return string(append([]byte{kind}, text...)) }

// numberKey is a key of a kind and numbers.
func numberKey(kind byte, numbers ...int) string {
	b := []byte{kind}
	for _, n := range numbers {
		b = appendNumber(b, n, numberSize)
	}
	return string(b)
}

// pathKey is the key of a path.
func pathKey(p api.Path) string { return textKey(pathKind, string(p)) }

// sigKey is the key of a place among the signatures of a path's number.
func sigKey(n int, place byte) string { return numberKey(sigKind, n) + string([]byte{place}) }

// realisedKey is the key of an output of a derivation.
func realisedKey(drv api.Path, out string) string {
	return textKey(realisedKind, string(drv)+stroke+out)
}

// encode is the record as bytes.
func (r record) encode() []byte {
	b := appendNumber(nil, r.number, numberSize)
	b = append(b, r.hash[:]...)
	b = appendNumber(b, r.size, lengthSize)
	return append(b, r.deriver...)
}

// decode is the record that bytes tell, if they tell one.
func decode(b []byte) (r record, ok bool) {
	if len(b) < numberSize+len(r.hash)+lengthSize {
		return record{}, false
	}
	r.number, b = cutNumber(b, numberSize)
	b = b[copy(r.hash[:], b):]
	r.size, b = cutNumber(b, lengthSize)
	r.deriver = api.Path(b)
	return r, true
}

// appendNumber is bytes with a number of so many bytes behind them: those of greater numbers are greater.
func appendNumber(b []byte, n, size int) []byte {
	for i := size - 1; i >= 0; i-- {
		b = append(b, byte(n>>(8*i)))
	}
	return b
}

// cutNumber is the number that the first bytes tell, so many of them, and what is behind these.
func cutNumber(b []byte, size int) (n int, rest []byte) {
	for _, c := range b[:size] {
		n = n<<8 | int(c)
	}
	return n, b[size:]
}

// cutNumbers is the numbers of paths that bytes tell.
func cutNumbers(b []byte) []int {
	var l []int
	for n := 0; len(b) >= numberSize; {
		n, b = cutNumber(b, numberSize)
		l = append(l, n)
	}
	return l
}
