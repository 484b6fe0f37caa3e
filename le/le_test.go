package le_test

import (
	"math"
	"math/rand/v2"
	"strings"
	"testing"

	"gabion/api"
	"gabion/le"
)

func TestPutP1_1(t *testing.T) {
	for _, x := range []struct {
		n    uint64
		size int
		want string
	}{
		{258, 3, "\x02\x01\x00"}, {258, 1, "\x02"}, {258, 0, ""}, {258, -1, ""}, {258, math.MinInt, ""},
		{0x0807060504030201, 7, "\x01\x02\x03\x04\x05\x06\x07"},
		{0x0807060504030201, 8, "\x01\x02\x03\x04\x05\x06\x07\x08"},
		{0x0807060504030201, 9, "\x01\x02\x03\x04\x05\x06\x07\x08"},
		{math.MaxUint64, math.MaxInt, strings.Repeat("\xff", 8)},
		{0, 2, "\x00\x00"},
	} {
		if got := le.Put(x.n, x.size); got != x.want {
			t.Errorf("Put(%d, %d) = %x", x.n, x.size, got)
		}
	}
}

func TestGetP1_1(t *testing.T) {
	for _, x := range []struct {
		s    string
		want uint64
	}{
		{"", 0}, {"\x07", 7}, {"\x01\x02\x03", 0x030201}, {"\x01\x02\x03\x04\x05\x06\x07\x08", 0x0807060504030201},
		{"\x01\x02\x03\x04\x05\x06\x07\x08\x09", 0x0807060504030201}, {strings.Repeat("\xff", 100), math.MaxUint64},
	} {
		if got := le.Get(x.s); got != x.want {
			t.Errorf("Get(%x) = %x", x.s, got)
		}
	}
	r := rand.New(rand.NewPCG(1, 1))
	for range 1000 {
		n := r.Uint64()
		if le.Get(le.Put(n, 8)) != n || le.Get(le.Put(n, 3)) != n&0xffffff {
			t.Fatalf("Get of Put of %x", n)
		}
	}
}

func TestWordsP1_2(t *testing.T) {
	var b []byte
	for i := range api.Line {
		b = append(b, byte(3*i+1))
	}
	w, e := le.Words(string(b))
	if e != api.OK {
		t.Fatal(e)
	}
	for k := range w {
		if w[k] != le.Get(string(b[8*k:8*k+8])) {
			t.Errorf("word %d is %x", k, w[k])
		}
	}
	if le.Text(w) != string(b) {
		t.Errorf("Text: %x", le.Text(w))
	}
	if got := le.Text([api.Words]uint64{1, 7: 2 << 56}); got != "\x01"+strings.Repeat("\x00", 62)+"\x02" {
		t.Errorf("Text: %x", got)
	}
	for _, n := range []int{0, 1, 63, 65, 128} {
		w, e := le.Words(strings.Repeat("x", n))
		if e != api.ErrArg || w != [api.Words]uint64{} {
			t.Errorf("Words of %d bytes: %v, %v", n, w, e)
		}
	}
}

// bits is the field, bit by bit.
func bits(w uint64, at, width int) uint64 {
	var v uint64
	for i := range width {
		if w>>(at+i)&1 == 1 {
			v |= 1 << i
		}
	}
	return v
}

func TestFieldsP1_3(t *testing.T) {
	r := rand.New(rand.NewPCG(2, 1))
	for at := range 64 {
		for width := 1; width <= 64-at; width++ {
			w, v := r.Uint64(), r.Uint64()
			if le.Field(w, at, width) != bits(w, at, width) {
				t.Fatalf("Field(%x, %d, %d)", w, at, width)
			}
			got := le.With(w, at, width, v)
			for i := range 64 {
				from := w >> i & 1
				if i >= at && i < at+width {
					from = v >> (i - at) & 1
				}
				if got>>i&1 != from {
					t.Fatalf("With(%x, %d, %d, %x) = %x", w, at, width, v, got)
				}
			}
		}
	}
}

func TestFieldsOutsideP1_3(t *testing.T) {
	big, small := math.MaxInt, math.MinInt
	for _, x := range [][2]int{{-1, 4}, {64, 1}, {64, 0}, {3, 0}, {3, -1}, {63, 2}, {0, 65}, {1, 64}, {big, 1}, {small, 1}, {1, big}, {1, small}, {big, big}, {small, small}} {
		if got := le.Field(0x102, x[0], x[1]); got != 0 {
			t.Errorf("Field at %d, %d: %x", x[0], x[1], got)
		}
		if got := le.With(0x102, x[0], x[1], math.MaxUint64); got != 0x102 {
			t.Errorf("With at %d, %d: %x", x[0], x[1], got)
		}
	}
}
