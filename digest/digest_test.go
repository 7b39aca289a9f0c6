package digest_test

import (
	"bytes"
	"crypto/hmac"
	"crypto/sha256"
	"strings"
	"testing"

	"pantry/api"
	"pantry/digest"
)

// row is n bytes of which neighbours differ, and which do not come back with the period of a block.
func row(n int) []byte {
	b := make([]byte, n)
	for i := range b {
		b[i] = byte(i*131 + i/251*17 + 7)
	}
	return b
}

func hmacOf(key, b []byte) api.Hash {
	m := hmac.New(sha256.New, key)
	m.Write(b)
	return api.Hash(m.Sum(nil))
}

// P1.1
func TestSumOfKnownTexts(t *testing.T) {
	for _, c := range []struct{ text, want string }{
		{"abc", "ba7816bf8f01cfea414140de5dae2223b00361a396177a9cb410ff61f20015ad"},
		{"", "e3b0c44298fc1c149afbf4c8996fb92427ae41e4649b934ca495991b7852b855"},
		{"abcdbcdecdefdefgefghfghighijhijkijkljklmklmnlmnomnopnopq", "248d6a61d20638b8e5c026930c3e6039a33ce45964ff2167f6ecedd419db06c1"},
		{strings.Repeat("a", 1000000), "cdc76e5c9914fb9281a1c7e284d73e67f1809a48a497200e046d39ccc7112cd0"},
	} {
		if got := digest.Hex(digest.Sum([]byte(c.text))); got != c.want {
			t.Errorf("%d bytes: %s, want %s", len(c.text), got, c.want)
		}
	}
	if digest.Sum(nil) != digest.Sum([]byte{}) {
		t.Error("a nil row and an empty one differ")
	}
}

// P1.1: all lengths about the ends of the first blocks, where the length goes into a block of its own.
func TestSumOfAllLengths(t *testing.T) {
	for n := range 4*64 + 10 {
		for _, b := range [][]byte{row(n), make([]byte, n), bytes.Repeat([]byte{0xff}, n), bytes.Repeat([]byte{0x80}, n)} {
			if got, want := digest.Sum(b), api.Hash(sha256.Sum256(b)); got != want {
				t.Errorf("%d bytes: %x, want %x", n, got, want)
			}
		}
	}
}

// P1.1: the length has more digits than 32 from 2^29 bytes on.
func TestSumOfVeryManyBytes(t *testing.T) {
	if testing.Short() {
		t.Skip("half a GiB")
	}
	part := row(1 << 20)
	ours, theirs := digest.New(), sha256.New()
	for range 1 << 9 {
		ours.Write(part)
		theirs.Write(part)
	}
	ours.Write([]byte("end"))
	theirs.Write([]byte("end"))
	if got, want := ours.Sum(), api.Hash(theirs.Sum(nil)); got != want {
		t.Errorf("%x, want %x", got, want)
	}
	if ours.Len() != 1<<29+3 {
		t.Error(ours.Len())
	}
}

// P1.2: every byte of a digest goes to one place, and to no other.
func TestFoldByteByByte(t *testing.T) {
	for i := range 32 {
		var h api.Hash
		h[i] = 0xa5
		var want [20]byte
		want[i%20] = 0xa5
		if got := digest.Fold(h); got != want {
			t.Errorf("byte %d: %x", i, got)
		}
	}
}

// P1.2
func TestFoldIsExclusiveOr(t *testing.T) {
	h := digest.Sum([]byte("abc"))
	got := digest.Fold(h)
	for i := range 20 {
		want := h[i]
		if i+20 < 32 {
			want ^= h[i+20]
		}
		if got[i] != want {
			t.Errorf("byte %d: %x, want %x", i, got[i], want)
		}
	}
	if got := digest.Fold(api.Hash(bytes.Repeat([]byte{0xff}, 32))); got != [20]byte{12: 0xff, 13: 0xff, 14: 0xff, 15: 0xff, 16: 0xff, 17: 0xff, 18: 0xff, 19: 0xff} {
		t.Errorf("all ones: %x", got)
	}
	if digest.Fold(api.Hash{}) != [20]byte{} {
		t.Error("noughts")
	}
}

// P1.3
func TestMacOfKnownTexts(t *testing.T) {
	for _, c := range []struct{ key, text, want string }{
		{"key", "The quick brown fox jumps over the lazy dog", "f7bc83f430538424b13298e6aa6fb143ef4d59a14946175997479dbc2d1a3cd8"},
		{"", "", "b613679a0814d9ec772f95d778c35fc5ff1697c493715653c6c712144292c5ad"},
		{"Jefe", "what do ya want for nothing?", "5bdcc146bf60754e6a042426089575c75a003f089d2739839dec58b964ec3843"},
		{strings.Repeat("\xaa", 131), "Test Using Larger Than Block-Size Key - Hash Key First", "60e431591ee0b67f0d8a26aacbf5b77f8e0bc6213728c5140546040f0ee37f54"},
	} {
		if got := digest.Hex(digest.Mac([]byte(c.key), []byte(c.text))); got != c.want {
			t.Errorf("key of %d bytes: %s, want %s", len(c.key), got, c.want)
		}
	}
}

// P1.3: keys of no byte, of nearly a block, of a block, of more; texts likewise.
func TestMacOfAllLengths(t *testing.T) {
	for k := range 140 {
		for _, n := range []int{0, 1, 55, 56, 63, 64, 65, 128, 200} {
			key, b := row(k), row(n)
			if got, want := digest.Mac(key, b), hmacOf(key, b); got != want {
				t.Errorf("key %d, text %d: %x, want %x", k, n, got, want)
			}
		}
	}
	if digest.Mac(nil, nil) != digest.Mac([]byte{}, []byte{}) {
		t.Error("nil rows and empty ones differ")
	}
}

// P1.3: a key of more than 64 bytes is its Sum, one of 64 is itself.
func TestMacOfLongKeys(t *testing.T) {
	text := []byte("text")
	for _, n := range []int{64, 65, 1000} {
		short := digest.Sum(row(n))
		same := digest.Mac(row(n), text) == digest.Mac(short[:], text)
		if same != (n > 64) {
			t.Errorf("key of %d bytes: is it its Sum? %v", n, same)
		}
	}
	if digest.Mac([]byte("k"), text) != digest.Mac([]byte("k\x00"), text) {
		t.Error("noughts behind a short key change something")
	}
}

// P1.4
func TestHex(t *testing.T) {
	var h api.Hash
	for i := range h {
		h[i] = byte(i*8 + i/4)
	}
	if got, want := digest.Hex(h), "0008101821293139424a525a636b737b848c949ca5adb5bdc6ced6dee7eff7ff"; got != want {
		t.Error(got)
	}
	if got := digest.Hex(api.Hash{}); got != strings.Repeat("0", 64) {
		t.Error(got)
	}
}

// P1.4: at every place just sixteen signs are digits.
func TestFromHexAtEveryPlace(t *testing.T) {
	whole := digest.Hex(digest.Sum([]byte("abc")))
	for i := range whole {
		for c := range 256 {
			s := whole[:i] + string([]byte{byte(c)}) + whole[i+1:]
			h, e := digest.FromHex(s)
			if strings.IndexByte("0123456789abcdef", byte(c)) >= 0 {
				if e != api.OK || digest.Hex(h) != s {
					t.Errorf("%q: %x, %v", s, h, e)
				}
			} else if e != api.ErrForm || h != (api.Hash{}) {
				t.Errorf("%q: %x, %v", s, h, e)
			}
		}
	}
}

// P1.4
func TestFromHexOfOtherTexts(t *testing.T) {
	whole := digest.Hex(digest.Sum(nil))
	wrong := []string{
		whole + "0", whole + "00", whole + whole, "0" + whole, " " + whole, whole + "\n",
		strings.ToUpper(whole), "0x" + whole[2:], whole[:63] + "g", whole[:62] + "ä",
		strings.Repeat("ä", 32), strings.Repeat("\x00", 64), strings.Repeat("\xff", 64), strings.Repeat("-1", 32),
		strings.Repeat("٣", 64), strings.Repeat("0", 1<<16),
	}
	for n := range 64 {
		wrong = append(wrong, whole[:n])
	}
	for _, s := range wrong {
		if h, e := digest.FromHex(s); e != api.ErrForm || h != (api.Hash{}) {
			t.Errorf("%q: %x, %v", s, h, e)
		}
	}
}

// P1.6
func TestFromHexOfHex(t *testing.T) {
	for n := range 300 {
		h := digest.Sum(row(n))
		if got, e := digest.FromHex(digest.Hex(h)); got != h || e != api.OK {
			t.Errorf("%x: %x, %v", h, got, e)
		}
	}
	for b := range 256 {
		h := api.Hash(bytes.Repeat([]byte{byte(b)}, 32))
		if got, e := digest.FromHex(digest.Hex(h)); got != h || e != api.OK {
			t.Errorf("%x: %x, %v", h, got, e)
		}
	}
}

// P1.7: not even the spare room behind a row's end is touched.
func TestRowsStayAsTheyAre(t *testing.T) {
	calls := map[string]func(b []byte){
		"Sum":       func(b []byte) { digest.Sum(b) },
		"Mac key":   func(b []byte) { digest.Mac(b, []byte("text")) },
		"Mac text":  func(b []byte) { digest.Mac([]byte("key"), b) },
		"Mac both":  func(b []byte) { digest.Mac(b, b) },
		"Write":     func(b []byte) { h := digest.New(); h.Write(b); h.Write(b); h.Sum() },
		"Write off": func(b []byte) { h := digest.New(); h.Write([]byte("x")); h.Write(b); h.Sum() },
	}
	for name, call := range calls {
		for _, n := range []int{0, 1, 55, 56, 63, 64, 65, 127, 128, 200} {
			all := row(n + 200)
			call(all[:n])
			if !bytes.Equal(all, row(n+200)) {
				t.Errorf("%s changed a row of %d bytes or the room behind it", name, n)
			}
		}
	}
}

// P1.7, W7: an answer stays what it is, and so does the next one.
func TestAnswersStayAsTheyAre(t *testing.T) {
	b := row(100)
	first := digest.Sum(b)
	kept := first
	first[0] ^= 0xff
	if digest.Sum(b) != kept {
		t.Error("an answer that was changed changes the next one")
	}
	digest.Sum(row(101))
	digest.Mac(b, b)
	if digest.Sum(b) != kept || kept != api.Hash(sha256.Sum256(b)) {
		t.Error("other calls change an answer")
	}
}
