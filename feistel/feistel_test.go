package feistel_test

import (
	"math"
	"testing"

	"gabion/api"
	"gabion/feistel"
)

func perm(t *testing.T, m int, key uint64) feistel.Perm {
	t.Helper()
	p, e := feistel.New(m, key)
	if e != api.OK || p.Size() != m {
		t.Fatalf("New(%d): %v", m, e)
	}
	return p
}

// image is the document's, in numbers without a bound.
func image(m int, key uint64, i int) int {
	w := 2
	for 1<<w < m {
		w += 2
	}
	h := w / 2
	for {
		l, r := i/(1<<h), i%(1<<h)
		for j := range 4 {
			k := int(key >> (16 * j) % 65536)
			sum := (r*40503 + k*52711 + 12289) % 65536
			sum ^= sum / 128
			l, r = r, l^sum%(1<<h)
		}
		i = l*(1<<h) + r
		if i < m {
			return i
		}
	}
}

var keys = []uint64{0, 1, 9, math.MaxUint64, 0x0123456789abcdef, 1 << 63, 0xffff0000}

func TestNewP8_1(t *testing.T) {
	for _, m := range []int{math.MinInt, -1, 0, api.MaxLines + 1, math.MaxInt} {
		if p, e := feistel.New(m, 5); e != api.ErrArg || p.Size() != 0 || p.To(0) != -1 || p.From(0) != -1 {
			t.Errorf("New(%d): %v", m, e)
		}
	}
	var zero feistel.Perm
	if zero.Size() != 0 || zero.To(0) != -1 || zero.From(0) != -1 || zero.To(-1) != -1 {
		t.Error("the zero Perm")
	}
	if p := perm(t, 1, 77); p.To(0) != 0 || p.From(0) != 0 {
		t.Error("one position")
	}
}

func TestToP8_1(t *testing.T) {
	for _, m := range []int{1, 2, 3, 4, 5, 15, 16, 17, 64, 65, 255, 1000, 1024, 4096, 4097, 8192} {
		for _, key := range keys {
			p := perm(t, m, key)
			for i := range m {
				if p.To(i) != image(m, key, i) {
					t.Fatalf("To(%d) of %d with %x is %d, not %d", i, m, key, p.To(i), image(m, key, i))
				}
			}
		}
	}
}

func TestFromP8_2(t *testing.T) {
	for _, m := range []int{1, 2, 3, 4, 5, 6, 7, 16, 17, 63, 64, 65, 300, 1024, 8191} {
		for _, key := range keys {
			p := perm(t, m, key)
			seen := make([]bool, m)
			for i := range m {
				to := p.To(i)
				if to < 0 || to >= m || seen[to] || p.From(to) != i {
					t.Fatalf("%d of %d with %x goes to %d, from which %d came", i, m, key, to, p.From(to))
				}
				seen[to] = true
			}
		}
	}
}

func TestOutsideP8_1_P8_2(t *testing.T) {
	p := perm(t, 5, 3)
	for _, i := range []int{-1, 5, 6, 15, 16, math.MinInt, math.MaxInt} {
		if p.To(i) != -1 || p.From(i) != -1 {
			t.Errorf("%d", i)
		}
	}
}
