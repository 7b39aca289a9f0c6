package digest_test

import (
	"sync"
	"testing"

	"pantry/api"
	"pantry/digest"
)

// written is a Hasher to which the rows are written, each of them taken.
func written(t *testing.T, rows ...[]byte) *digest.Hasher {
	t.Helper()
	h := digest.New()
	n := 0
	for _, r := range rows {
		if !h.Write(r) {
			t.Errorf("a row of %d bytes behind %d is refused", len(r), n)
		}
		n += len(r)
		if h.Len() != n {
			t.Errorf("Len %d behind %d bytes", h.Len(), n)
		}
	}
	return h
}

// P1.5
func TestNewHasNoByte(t *testing.T) {
	h := digest.New()
	if h.Len() != 0 {
		t.Error(h.Len())
	}
	if h.Sum() != digest.Sum(nil) {
		t.Errorf("%x", h.Sum())
	}
	if h.Write([]byte("x")) || h.Write(nil) {
		t.Error("a Write behind a Sum of nothing")
	}
}

// P1.5: what New did not make has no byte either.
func TestHasherOfItsOwn(t *testing.T) {
	var empty, full digest.Hasher
	if empty.Len() != 0 || empty.Sum() != digest.Sum(nil) {
		t.Errorf("%d, %x", empty.Len(), empty.Sum())
	}
	if !full.Write(row(70)) || full.Len() != 70 || full.Sum() != digest.Sum(row(70)) {
		t.Errorf("%d, %x", full.Len(), full.Sum())
	}
}

// P1.5
func TestHasherGrows(t *testing.T) {
	h := written(t, []byte("a"), []byte("b"), nil, []byte{}, []byte("c"))
	if got := digest.Hex(h.Sum()); got != "ba7816bf8f01cfea414140de5dae2223b00361a396177a9cb410ff61f20015ad" {
		t.Error(got)
	}
}

// P1.5: behind a Sum nothing is taken any more, and nothing happens.
func TestWriteBehindSum(t *testing.T) {
	for _, n := range []int{0, 1, 55, 56, 63, 64, 65, 128, 129} {
		h := written(t, row(n))
		want := digest.Sum(row(n))
		for range 3 {
			if got := h.Sum(); got != want {
				t.Errorf("%d bytes: %x, want %x", n, got, want)
			}
			for _, more := range []int{0, 1, 64, 200} {
				if h.Write(row(more)) {
					t.Errorf("%d bytes behind a Sum are taken", more)
				}
			}
			if h.Len() != n {
				t.Errorf("Len %d behind %d bytes", h.Len(), n)
			}
		}
	}
}

// P1.5: Len is no last step.
func TestWriteBehindLen(t *testing.T) {
	h := written(t, row(10))
	h.Len()
	if !h.Write(row(3)) || h.Len() != 13 {
		t.Error(h.Len())
	}
}

// P1.6
func TestHasherCutInThree(t *testing.T) {
	for _, n := range []int{0, 1, 2, 63, 64, 65, 127, 128, 129, 192, 200} {
		b := row(n)
		want := digest.Sum(b)
		for i := range n + 1 {
			for j := i; j <= n; j += 1 + (n-i)/40 {
				if got := written(t, b[:i], b[i:j], b[j:]).Sum(); got != want {
					t.Errorf("%d bytes, cut at %d and %d: %x, want %x", n, i, j, got, want)
				}
			}
		}
	}
}

// P1.6
func TestHasherCutInEqualRows(t *testing.T) {
	b := row(1000)
	for _, size := range []int{1, 2, 3, 7, 31, 32, 33, 63, 64, 65, 127, 128, 129, 500, 1000} {
		h := digest.New()
		for from := 0; from < len(b); from += size {
			h.Write(b[from:min(from+size, len(b))])
			h.Write(nil)
		}
		if h.Sum() != digest.Sum(b) || h.Len() != len(b) {
			t.Errorf("rows of %d bytes: %x", size, h.Sum())
		}
	}
}

// P1.7: a Hasher keeps no row that was handed in, and none of its neighbours'.
func TestHasherKeepsNoRow(t *testing.T) {
	for _, n := range []int{1, 63, 64, 65, 130} {
		b := row(n)
		one, other := digest.New(), digest.New()
		one.Write(b)
		other.Write([]byte("other"))
		clear(b)
		one.Write(b)
		if one.Sum() != digest.Sum(append(row(n), make([]byte, n)...)) {
			t.Errorf("%d bytes that were cleared behind the Write count", n)
		}
		if other.Sum() != digest.Sum([]byte("other")) {
			t.Error("two Hashers share something")
		}
	}
}

// P1.7
func TestSumAndLenByMany(t *testing.T) {
	for _, n := range []int{0, 1, 64, 1000} {
		h := written(t, row(n))
		want := digest.Sum(row(n))
		sums := make([]api.Hash, 32)
		lens := make([]int, len(sums))
		var all sync.WaitGroup
		for i := range sums {
			all.Go(func() {
				if i%2 == 0 {
					lens[i], sums[i] = h.Len(), h.Sum()
				} else {
					sums[i], lens[i] = h.Sum(), h.Len()
				}
			})
		}
		all.Wait()
		for i := range sums {
			if sums[i] != want || lens[i] != n {
				t.Errorf("%d bytes: %x, %d, want %x", n, sums[i], lens[i], want)
			}
		}
		if h.Write([]byte("x")) {
			t.Error("a Write behind many Sums is taken")
		}
	}
}

// P1.7
func TestNilHasher(t *testing.T) {
	var h *digest.Hasher
	for range 2 {
		if h.Write(nil) || h.Write([]byte("x")) || h.Sum() != (api.Hash{}) || h.Len() != 0 {
			t.Error("something happens to a nil Hasher")
		}
	}
}
