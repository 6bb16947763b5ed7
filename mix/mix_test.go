package mix

import (
	"math"
	"math/big"
	"math/rand"
	"strings"
	"testing"
)

// slow reckons with whole numbers of any size, step by step as the chapter tells it.
func slow(seed uint64, s string) uint64 {
	limit := new(big.Int).Lsh(big.NewInt(1), 64)
	num := func(s string) *big.Int {
		n, _ := new(big.Int).SetString(s, 16)
		return n
	}
	h := new(big.Int).SetUint64(seed)
	h.Xor(h, num("9e3779b97f4a7c15"))
	for _, b := range []byte(s) {
		h.Xor(h, big.NewInt(int64(b)))
		up := new(big.Int).Lsh(h, 13)
		h.Xor(h, up.Mod(up, limit))
		h.Xor(h, new(big.Int).Rsh(h, 7))
		up = new(big.Int).Lsh(h, 17)
		h.Xor(h, up.Mod(up, limit))
		h.Add(h, num("d1b54a32d192ed03")).Mod(h, limit)
	}
	return h.Uint64()
}

func random(r *rand.Rand, most int) string {
	b := make([]byte, r.Intn(most+1))
	r.Read(b)
	return string(b)
}

// P2.1
func TestNumbers(t *testing.T) {
	if Start(0) != 0x9e3779b97f4a7c15 || Start(0x9e3779b97f4a7c15) != 0 || Start(math.MaxUint64) != 0x61c8864680b583ea {
		t.Error("Start")
	}
	if Add(7, "") != 7 || Of("") != Start(0) {
		t.Error("no bytes")
	}
	r := rand.New(rand.NewSource(1))
	for range 500 {
		seed, s := r.Uint64(), random(r, 40)
		if got := Add(Start(seed), s); got != slow(seed, s) {
			t.Fatalf("Add from %d of %q: %x", seed, s, got)
		}
		if got := Of(s); got != slow(uint64(len(s)), s) {
			t.Fatalf("Of %q: %x", s, got)
		}
	}
}

// P2.1
func TestNarrow(t *testing.T) {
	h := uint64(0xfedcba9876543210)
	for width, want := range map[int]uint64{
		math.MinInt: 0, -1: 0, 0: 0, 1: 0, 5: 0x10, 8: 0x10, 12: 0x210, 63: 0x7edcba9876543210, 64: h, 65: h, math.MaxInt: h,
	} {
		if got := Narrow(h, width); got != want {
			t.Errorf("%d: %x", width, got)
		}
	}
	if Narrow(math.MaxUint64, 1) != 1 || Narrow(math.MaxUint64, 63) != math.MaxInt64 {
		t.Error("all ones")
	}
}

// P2.1
func TestText(t *testing.T) {
	for h, want := range map[uint64]string{
		0: "aaaaaaaaaaaaa", 1: "aaaaaaaaaaaab", 31: "aaaaaaaaaaaa7", 32: "aaaaaaaaaaaba",
		math.MaxUint64: "p777777777777", 1 << 63: "iaaaaaaaaaaaa",
	} {
		if got := Text(h); got != want {
			t.Errorf("%d: %s", h, got)
		}
		if got, ok := Parse(want); got != h || !ok {
			t.Errorf("%s: %d, %t", want, got, ok)
		}
	}
	for _, s := range []string{
		"", "a", "aaaaaaaaaaaa", "aaaaaaaaaaaaaa", "qaaaaaaaaaaaa", "7777777777777", "Aaaaaaaaaaaaa",
		"aaaaaa1aaaaaa", "aaaaaaaaaaaa8", "aaaaaaaaaaaa ", "aaaaaaaaaaaa0", "é" + strings.Repeat("a", 11),
	} {
		if h, ok := Parse(s); h != 0 || ok {
			t.Errorf("%q: %d, %t", s, h, ok)
		}
	}
}

// P2.2
func TestPieces(t *testing.T) {
	r := rand.New(rand.NewSource(2))
	for range 500 {
		h, a, b := r.Uint64(), random(r, 20), random(r, 20)
		if Add(Add(h, a), b) != Add(h, a+b) {
			t.Fatalf("%q and %q", a, b)
		}
	}
}

// P2.3
func TestItTells(t *testing.T) {
	r := rand.New(rand.NewSource(3))
	for range 2000 {
		g, h, s := r.Uint64(), r.Uint64(), random(r, 20)
		if r.Intn(2) == 0 {
			h = g ^ 1<<r.Intn(64)
		}
		if g != h && (Add(g, s) == Add(h, s) || Add(Start(g), s) == Add(Start(h), s)) {
			t.Fatalf("from %x and %x on %q", g, h, s)
		}
		b := []byte(s + "x")
		b[r.Intn(len(b))] ^= byte(1 + r.Intn(255))
		if Add(g, s+"x") == Add(g, string(b)) || Of(s+"x") == Of(string(b)) {
			t.Fatalf("%q and %q", s+"x", b)
		}
	}
}

// P2.4
func TestThereAndBack(t *testing.T) {
	r := rand.New(rand.NewSource(4))
	for range 2000 {
		h := r.Uint64() >> r.Intn(64)
		if got, ok := Parse(Text(h)); got != h || !ok {
			t.Fatalf("%d: %d, %t", h, got, ok)
		}
		b := make([]byte, 13)
		for i := range b {
			b[i] = letters[r.Intn(len(letters))]
		}
		if h, ok := Parse(string(b)); ok != (b[0] <= 'p' && b[0] >= 'a') || ok && Text(h) != string(b) {
			t.Fatalf("%s: %d, %t", b, h, ok)
		}
	}
}
