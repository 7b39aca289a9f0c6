package digest

import "pantry/api"

const hexDigits = "0123456789abcdef"

// Hex is a digest in hexadecimal digits.
func Hex(h api.Hash) string {
	out := make([]byte, 0, 2*len(h))
	for _, b := range h {
		out = append(out, hexDigits[b>>4], hexDigits[b&15])
	}
	return string(out)
}

// FromHex is the way back.
func FromHex(s string) (api.Hash, api.Errno) {
	var out api.Hash
	if len(s) != 2*len(out) {
		return api.Hash{}, api.ErrForm
	}
	for i := range out {
		high, ok := digitValue(s[2*i])
		low, ok2 := digitValue(s[2*i+1])
		if !ok || !ok2 {
			return api.Hash{}, api.ErrForm
		}
		out[i] = high<<4 | low
	}
	return out, api.OK
}

// digitValue is what a digit counts; great letters are none, so that each digest has one text.
func digitValue(c byte) (byte, bool) {
	switch {
	case '0' <= c && c <= '9':
		return c - '0', true
	case 'a' <= c && c <= 'f':
		return c - 'a' + 10, true
	}
	return 0, false
}
