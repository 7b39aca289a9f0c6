package b32_test

import (
	"bytes"
	"math"
	"math/big"
	"slices"
	"strings"
	"testing"

	"pantry/api"
	"pantry/b32"
)

const (
	digits = "0123456789abcdfghijklmnpqrsvwxyz"
	most   = 1 << 24
)

// row is n bytes of which neighbours differ, and which do not come back with the period of a group of five.
func row(n int) []byte {
	b := make([]byte, n)
	for i := range b {
		b[i] = byte(i*131 + i/251*17 + n*7 + 0x95)
	}
	return b
}

// rows are rows of n bytes: no bit set, all set, only the lowest, only the highest, and mixed ones.
func rows(n int) [][]byte {
	all := [][]byte{make([]byte, n), bytes.Repeat([]byte{0xff}, n), row(n)}
	if n > 0 {
		low, high := make([]byte, n), make([]byte, n)
		low[0], high[n-1] = 1, 0x80
		all = append(all, low, high)
	}
	return all
}

func numberOf(b []byte) *big.Int {
	turned := bytes.Clone(b)
	slices.Reverse(turned)
	return new(big.Int).SetBytes(turned)
}

// textOf is so many digits of a number, worked out by division.
func textOf(number *big.Int, size int) string {
	rest, digit, base := new(big.Int).Set(number), new(big.Int), big.NewInt(32)
	out := make([]byte, size)
	for i := size - 1; i >= 0; i-- {
		rest.DivMod(rest, base, digit)
		out[i] = digits[digit.Int64()]
	}
	return string(out)
}

func mustParse(t *testing.T, s string, n int) []byte {
	t.Helper()
	b, e := b32.Parse(s, n)
	if e != api.OK {
		t.Fatalf("Parse of %d digits as %d bytes: %v", len(s), n, e)
	}
	return b
}

func mustRefuse(t *testing.T, s string, n int, want api.Errno) {
	t.Helper()
	if b, e := b32.Parse(s, n); e != want || b != nil {
		t.Errorf("Parse(%.40q, %d): %x, %v, want %v", s, n, b, e, want)
	}
}

// P2.1
func TestLen(t *testing.T) {
	for _, c := range []struct{ n, want int }{
		{math.MinInt, 0}, {-most, 0}, {-1, 0}, {0, 0}, {1, 2}, {2, 4}, {3, 5}, {4, 7}, {5, 8}, {6, 10}, {9, 15}, {10, 16}, {20, 32}, {32, 52},
		{most - 2, 26843543}, {most - 1, 26843544}, {most, 26843546}, {most + 1, 26843546}, {most + 5, 26843546}, {math.MaxInt / 8, 26843546}, {math.MaxInt - 1, 26843546}, {math.MaxInt, 26843546},
	} {
		if got := b32.Len(c.n); got != c.want {
			t.Errorf("Len(%d): %d, want %d", c.n, got, c.want)
		}
	}
	for n := range 1000 {
		if got := b32.Len(n); 5*got < 8*n || 5*got >= 8*n+5 {
			t.Errorf("Len(%d): %d", n, got)
		}
	}
}

// P2.1
func TestTextOfKnownBytes(t *testing.T) {
	for _, c := range []struct {
		b    []byte
		want string
	}{
		{[]byte{0x1f}, "0z"},
		{[]byte{0, 1}, "0080"},
		{nil, ""},
		{[]byte{}, ""},
		{[]byte{0}, "00"},
		{[]byte{0xff}, "7z"},
		{[]byte{0xff, 0xff, 0xff, 0xff, 0xff}, "zzzzzzzz"},
		{[]byte{1, 0, 0, 0, 0}, "00000001"},
		{[]byte{0, 0, 0, 0, 0x80}, "h0000000"},
	} {
		if got := b32.Text(c.b); got != c.want {
			t.Errorf("Text of %x: %q, want %q", c.b, got, c.want)
		}
	}
}

// P2.1: each digit by its value.
func TestTextOfEachDigit(t *testing.T) {
	for v := range 32 {
		if got, want := b32.Text([]byte{byte(v)}), "0"+digits[v:v+1]; got != want {
			t.Errorf("Text of %d: %q, want %q", v, got, want)
		}
	}
}

// P2.1: all lengths, with and without spare bits, against division of the whole number.
func TestTextOfAllLengths(t *testing.T) {
	for n := range 70 {
		for _, b := range rows(n) {
			if got, want := b32.Text(b), textOf(numberOf(b), (8*n+4)/5); got != want {
				t.Errorf("Text of %x: %q, want %q", b, got, want)
			}
		}
	}
}

// P2.1, P2.2, P2.3: the greatest length, and those beside it.
func TestMostBytes(t *testing.T) {
	b := row(most + 1)
	for _, n := range []int{most - 1, most} {
		text := b32.Text(b[:n])
		if len(text) != b32.Len(n) {
			t.Fatalf("Text of %d bytes has %d digits", n, len(text))
		}
		if back := mustParse(t, text, n); !bytes.Equal(back, b[:n]) {
			t.Errorf("Parse of Text of %d bytes is not the bytes", n)
		}
		mustRefuse(t, text+"0", n, api.ErrForm)
		mustRefuse(t, text[1:], n, api.ErrForm)
	}
	if got := b32.Text(b); got != "" {
		t.Errorf("Text of too many bytes has %d digits", len(got))
	}
	tooLong := strings.Repeat("0", 26843548)
	for _, s := range []string{"", tooLong, tooLong[:26843547], tooLong[:26843546]} {
		mustRefuse(t, s, most+1, api.ErrArg)
	}
}

// P2.2
func TestParseOfKnownTexts(t *testing.T) {
	for _, c := range []struct {
		s    string
		n    int
		want []byte
	}{
		{"0z", 1, []byte{0x1f}},
		{"7z", 1, []byte{0xff}},
		{"0080", 2, []byte{0, 1}},
		{"", 0, nil},
		{"zzzzzzzz", 5, []byte{0xff, 0xff, 0xff, 0xff, 0xff}},
	} {
		if got := mustParse(t, c.s, c.n); !bytes.Equal(got, c.want) {
			t.Errorf("Parse(%q, %d): %x, want %x", c.s, c.n, got, c.want)
		}
	}
}

// P2.2: a wrong number of bytes is told ahead of a wrong text.
func TestParseRefusesNumbersOfBytes(t *testing.T) {
	for _, n := range []int{-1, -2, -5, -most, math.MinInt, most + 1, most + 5, 1 << 30, math.MaxInt} {
		for _, s := range []string{"", "0", "00", "e", "8z", "zzzzzzzz"} {
			mustRefuse(t, s, n, api.ErrArg)
		}
	}
}

// P2.2: one digit too few or too many, and those of other lengths.
func TestParseRefusesLengths(t *testing.T) {
	for n := range 30 {
		for size := range 60 {
			if size != (8*n+4)/5 {
				mustRefuse(t, strings.Repeat("0", size), n, api.ErrForm)
			}
		}
	}
	mustRefuse(t, "", most, api.ErrForm)
}

// P2.2: every byte at every place of texts with and without spare bits.
func TestParseOfEveryByte(t *testing.T) {
	for _, n := range []int{2, 3, 5, 7} {
		size := (8*n + 4) / 5
		for place := range size {
			for c := range 256 {
				text := bytes.Repeat([]byte{'0'}, size)
				text[place] = byte(c)
				value := strings.IndexByte(digits, byte(c))
				number := new(big.Int).Lsh(big.NewInt(int64(max(value, 0))), uint(5*(size-1-place)))
				if value < 0 || number.BitLen() > 8*n {
					mustRefuse(t, string(text), n, api.ErrForm)
					continue
				}
				if got := mustParse(t, string(text), n); len(got) != n || numberOf(got).Cmp(number) != 0 {
					t.Errorf("Parse(%q, %d): %x", text, n, got)
				}
			}
		}
	}
}

// P2.2: signs of more than one byte, and letters that look like digits.
func TestParseRefusesSigns(t *testing.T) {
	for _, s := range []string{"e0", "0e", "o0", "0o", "t0", "0t", "u0", "0u", "Z0", "0Z", "0A", " 0", "0 ", "0=", "-0", "0\n", "\x000", "é", "\xff\xff"} {
		mustRefuse(t, s, 1, api.ErrForm)
	}
	mustRefuse(t, "٣٣", 2, api.ErrForm)
}

// P2.2: the greatest number that has room, and the ones behind it.
func TestParseRefusesGreatNumbers(t *testing.T) {
	one := big.NewInt(1)
	for n := range 40 {
		size := (8*n + 4) / 5
		limit := new(big.Int).Lsh(one, uint(8*n))
		greatest := textOf(new(big.Int).Sub(limit, one), size)
		if got := mustParse(t, greatest, n); !bytes.Equal(got, bytes.Repeat([]byte{0xff}, n)) {
			t.Errorf("Parse(%q, %d): %x", greatest, n, got)
		}
		for spare := range 5*size - 8*n {
			mustRefuse(t, textOf(new(big.Int).Lsh(limit, uint(spare)), size), n, api.ErrForm)
		}
		if 5*size > 8*n {
			mustRefuse(t, strings.Repeat("z", size), n, api.ErrForm)
		}
	}
	mustRefuse(t, "8z", 1, api.ErrForm)
	mustRefuse(t, "g000", 2, api.ErrForm)
}

// P2.3: the bytes come back, and so does the text.
func TestThereAndBack(t *testing.T) {
	for n := range 300 {
		for _, b := range rows(n) {
			text := b32.Text(b)
			back := mustParse(t, text, n)
			if !bytes.Equal(back, b) {
				t.Errorf("Parse of Text of %x: %x", b, back)
			}
			if again := b32.Text(back); again != text {
				t.Errorf("Text of Parse of %q: %q", text, again)
			}
		}
	}
}

// P2.3: all texts of two digits: one that parses is the only text of its bytes.
func TestTextsOfOneByte(t *testing.T) {
	seen := 0
	for high := range 32 {
		for low := range 32 {
			text := string([]byte{digits[high], digits[low]})
			b, e := b32.Parse(text, 1)
			if (e == api.OK) != (high < 8) {
				t.Errorf("Parse(%q, 1): %v", text, e)
			}
			if e == api.OK {
				seen++
				if again := b32.Text(b); again != text {
					t.Errorf("Text of Parse of %q: %q", text, again)
				}
			}
		}
	}
	if seen != 256 {
		t.Error(seen, "texts of one byte")
	}
}

// P2.3: neither the bytes nor the room behind them change, and the text stays when they do.
func TestTextKeepsNothing(t *testing.T) {
	room := row(30)
	before := bytes.Clone(room)
	text := b32.Text(room[:17])
	if !bytes.Equal(room, before) {
		t.Error("Text changed what it was given")
	}
	kept := strings.Clone(text)
	clear(room)
	b32.Text(room)
	if text != kept {
		t.Error("a text changed with its bytes")
	}
}

// P2.3: what one call answers shares nothing with what another one does, its spare room neither.
func TestParseAnswersNewMemory(t *testing.T) {
	want := row(17)
	text := b32.Text(want)
	first, second := mustParse(t, text, 17), mustParse(t, text, 17)
	first = first[:cap(first)]
	for i := range first {
		first[i] ^= 0xff
	}
	if !bytes.Equal(second, want) || !bytes.Equal(mustParse(t, text, 17), want) {
		t.Error("two answers share memory")
	}
}
