package crc_test

import (
	"hash/crc32"
	"math"
	"math/rand/v2"
	"strings"
	"testing"

	"gabion/crc"
	"gabion/le"
)

// slow16 is the document's register, bit by bit.
func slow16(s string) uint16 {
	r := uint16(0xFFFF)
	for i := range len(s) {
		for k := 7; k >= 0; k-- {
			bit := uint16(s[i]>>k&1) ^ r>>15
			r <<= 1
			if bit == 1 {
				r ^= 0x1021
			}
		}
	}
	return r
}

func TestSumsP2_1(t *testing.T) {
	for _, x := range []struct {
		s   string
		s16 uint16
		s32 uint32
	}{
		{"123456789", 0x29B1, 0xE3069283}, {"", 0xFFFF, 0}, {"\x00", 0xE1F0, 0x527D5351},
		{"a", 0x9D77, 0xC1D04330}, {strings.Repeat("\x00", 32), slow16(strings.Repeat("\x00", 32)), 0x8A9136AA},
		{strings.Repeat("\xff", 32), slow16(strings.Repeat("\xff", 32)), 0x62A8AB43},
	} {
		if crc.Sum16(x.s) != x.s16 || crc.Sum32(x.s) != x.s32 {
			t.Errorf("%x: %x, %x", x.s, crc.Sum16(x.s), crc.Sum32(x.s))
		}
	}
	r := rand.New(rand.NewPCG(3, 1))
	table := crc32.MakeTable(crc32.Castagnoli)
	for n := range 300 {
		b := make([]byte, n)
		for i := range b {
			b[i] = byte(r.Uint32())
		}
		if crc.Sum16(string(b)) != slow16(string(b)) || crc.Sum32(string(b)) != crc32.Checksum(b, table) {
			t.Fatalf("%x", b)
		}
	}
}

func TestGuardP2_2(t *testing.T) {
	for _, n := range []uint64{0, 1, 65535, 1<<48 - 1, 1 << 48, math.MaxUint64, 0x123456789abc, 0xfedc123456789abc} {
		w := crc.Guard(n)
		low := n & (1<<48 - 1)
		if w&(1<<48-1) != low || uint16(w>>48) != ^slow16(le.Put(low, 6)) {
			t.Errorf("Guard(%x) = %x", n, w)
		}
		if got, ok := crc.Guarded(w); got != low || !ok {
			t.Errorf("Guarded(%x) = %x, %v", w, got, ok)
		}
	}
	for _, w := range []uint64{0, math.MaxUint64, crc.Guard(5) + 1, crc.Guard(5) ^ 1<<63, crc.Guard(7) ^ 0xffff<<48} {
		if got, ok := crc.Guarded(w); got != 0 || ok {
			t.Errorf("Guarded(%x) = %x, %v", w, got, ok)
		}
	}
}

func TestChangesP2_3(t *testing.T) {
	r := rand.New(rand.NewPCG(4, 1))
	for n := 1; n <= 40; n++ {
		b := make([]byte, n)
		for i := range b {
			b[i] = byte(r.Uint32())
		}
		c := append([]byte(nil), b...)
		i := r.IntN(n)
		for d := 1; d < 256; d++ {
			c[i] = b[i] ^ byte(d)
			if crc.Sum16(string(c)) == crc.Sum16(string(b)) || crc.Sum32(string(c)) == crc.Sum32(string(b)) {
				t.Fatalf("%x and %x", b, c)
			}
		}
	}
	for range 200 {
		w := crc.Guard(r.Uint64())
		for i := range 64 {
			if _, ok := crc.Guarded(w ^ 1<<i); ok {
				t.Fatalf("%x is guarded with bit %d inverted", w, i)
			}
		}
	}
}
