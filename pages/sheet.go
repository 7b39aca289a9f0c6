package pages

import (
	"bytes"
	"math"

	"pantry/api"
)

// A sheet is sixty-four pages that follow one another and share a file. Some pages of a sheet are told, in its file
// and in records of the log, by its number and, for each of them, its place in the sheet, a state (0, if it is free,
// else how many bytes it has, and one more), and its bytes.
const (
	perSheet  = 64
	sheets    = maxPages / perSheet // their numbers are bytes
	headSize  = 1                   // bytes of a sheet's number
	entrySize = 3                   // bytes of a page's place and state

	everyPage = math.MaxUint64 // the digits of a whole sheet
)

// encode tells the pages of a sheet whose digits are set, as far as there are such pages.
func encode(pages []page, k int, digits uint64) []byte {
	b := make([]byte, 0, weight(pages, k, digits))
	b = append(b, byte(k))
	for n := range marked(k, digits) {
		if n >= len(pages) {
			break
		}
		x, state := pages[n], 0
		if x.taken {
			state = len(x.data) + 1
		}
		b = append(b, byte(n%perSheet), byte(state>>8), byte(state))
		b = append(b, x.data...)
	}
	return b
}

// weight is how many bytes encode makes.
func weight(pages []page, k int, digits uint64) int {
	sum := headSize
	for n := range marked(k, digits) {
		if n >= len(pages) {
			break
		}
		sum += entrySize + len(pages[n].data)
	}
	return sum
}

// decode is some pages with those that bytes tell, which are one at least. Bytes that do not tell pages change none.
func decode(pages []page, b []byte) []page {
	first, rest := int(b[0])*perSheet, b[headSize:]
	var found []page
	var places []int
	for len(rest) > 0 {
		at, x, behind, ok := cutPage(rest)
		if !ok {
			return pages
		}
		places, found, rest = append(places, first+at), append(found, x), behind
	}
	for i, n := range places {
		for n >= len(pages) {
			pages = append(pages, page{})
		}
		pages[n] = found[i]
	}
	return pages
}

// cutPage is the page with which bytes begin, its place in its sheet, and what is behind it.
func cutPage(b []byte) (at int, x page, rest []byte, ok bool) {
	if len(b) < entrySize || b[0] >= perSheet {
		return 0, page{}, nil, false
	}
	at, state, rest := int(b[0]), int(b[1])<<8|int(b[2]), b[entrySize:]
	if state == 0 {
		return at, page{}, rest, true
	}
	size := state - 1
	if size > api.PageSize || size > len(rest) {
		return 0, page{}, nil, false
	}
	return at, page{taken: true, data: bytes.Clone(rest[:size])}, rest[size:], true
}
