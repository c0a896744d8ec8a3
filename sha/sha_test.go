package sha

import (
	"bytes"
	"crypto/sha256"
	"encoding/binary"
	"encoding/hex"
	"math/rand"
	"strings"
	"testing"
)

// P17.1: texts of FIPS 180-4 and the edges of a block, with the sums that are known of them.
func TestSumKnown(t *testing.T) {
	tests := []struct{ text, sum string }{
		{"abc", "ba7816bf8f01cfea414140de5dae2223b00361a396177a9cb410ff61f20015ad"},
		{"", "e3b0c44298fc1c149afbf4c8996fb92427ae41e4649b934ca495991b7852b855"},
		{"abcdbcdecdefdefgefghfghighijhijkijkljklmklmnlmnomnopnopq", "248d6a61d20638b8e5c026930c3e6039a33ce45964ff2167f6ecedd419db06c1"},
		{strings.Repeat("a", 1000000), "cdc76e5c9914fb9281a1c7e284d73e67f1809a48a497200e046d39ccc7112cd0"},
	}
	for _, c := range tests {
		if got := Hex(Sum([]byte(c.text))); got != c.sum {
			t.Errorf("Sum of %d bytes: %s, want %s", len(c.text), got, c.sum)
		}
	}
}

// P17.1: of each length up to some blocks, and of some long ones, it is what another SHA-256 tells.
func TestSumEachLength(t *testing.T) {
	r := rand.New(rand.NewSource(17))
	lengths := []int{1 << 16, 1<<16 + 55, 1<<20 - 1}
	for n := range 300 {
		lengths = append(lengths, n)
	}
	for _, n := range lengths {
		b := make([]byte, n)
		r.Read(b)
		if Sum(b) != sha256.Sum256(b) {
			t.Errorf("Sum of %d bytes is another one", n)
		}
	}
	if Sum(nil) != Sum([]byte{}) {
		t.Error("Sum(nil) is not that of no bytes")
	}
}

// P17.1: what stands behind so many bytes, of more of them, too, than a test can sum.
func TestEnding(t *testing.T) {
	for _, size := range []uint64{0, 1, 54, 55, 56, 57, 63, 64, 119, 120, 1 << 29, 1<<29 + 55, 1<<31 - 1, 1 << 40} {
		want := []byte{0x80}
		for (size+uint64(len(want)))%64 != 56 {
			want = append(want, 0)
		}
		want = binary.BigEndian.AppendUint64(want, 8*size)
		if got := ending(size); !bytes.Equal(got, want) {
			t.Errorf("behind %d bytes: %x, want %x", size, got, want)
		}
	}
}

// P17.1: Parts is the sum of all bytes, wherever they are cut.
func TestParts(t *testing.T) {
	r := rand.New(rand.NewSource(171))
	if Parts() != Sum(nil) || Parts(nil, []byte{}, nil) != Sum(nil) {
		t.Error("Parts of no bytes")
	}
	for range 500 {
		b := make([]byte, r.Intn(300))
		r.Read(b)
		var l [][]byte
		for rest := b; len(rest) > 0; {
			n := r.Intn(len(rest) + 1)
			l, rest = append(l, rest[:n]), rest[n:]
		}
		if Parts(l...) != Sum(b) {
			t.Fatalf("Parts of %d lists of %d bytes is another sum", len(l), len(b))
		}
	}
}

// P17.1: Hex writes the higher half of each byte first, in small letters.
func TestHex(t *testing.T) {
	var d [32]byte
	if got := Hex(d); got != strings.Repeat("0", 64) {
		t.Errorf("Hex of zeros: %s", got)
	}
	for start := range 256 {
		for i := range d {
			d[i] = byte(start + i)
		}
		if got, want := Hex(d), hex.EncodeToString(d[:]); got != want {
			t.Errorf("Hex(%x): %s", d, got)
		}
	}
}

// P17.2: a hash is written on behind each of its sums.
func TestHash(t *testing.T) {
	r := rand.New(rand.NewSource(172))
	for range 100 {
		h := New()
		var all []byte
		for range 20 {
			if h.Sum() != sha256.Sum256(all) || h.Sum() != Sum(all) {
				t.Fatalf("the sum of %d bytes is another one", len(all))
			}
			b := make([]byte, r.Intn(130))
			r.Read(b)
			h.Write(b)
			all = append(all, b...)
		}
	}
}

// P17.2, R1: a nil Hash takes nothing, and is the sum of no bytes.
func TestNilHash(t *testing.T) {
	var h *Hash
	h.Write([]byte("abc"))
	if h.Sum() != Sum(nil) {
		t.Error("the sum of a nil Hash")
	}
}

// P17.2: of two hashes neither knows of the other.
func TestHashesApart(t *testing.T) {
	a, b := New(), New()
	a.Write([]byte("a"))
	b.Write([]byte("b"))
	if a.Sum() != Sum([]byte("a")) || b.Sum() != Sum([]byte("b")) {
		t.Error("two hashes are not apart")
	}
}

// R4: what is handed in is neither changed nor kept.
func TestHandedIn(t *testing.T) {
	room := []byte("abcdefgh")
	b := room[:3]
	h := New()
	h.Write(b)
	Sum(b)
	Parts(b, b)
	if !bytes.Equal(room, []byte("abcdefgh")) {
		t.Errorf("changed: %s", room)
	}
	room[0] = 'x'
	if h.Sum() != Sum([]byte("abc")) {
		t.Error("what was written is kept")
	}
}
