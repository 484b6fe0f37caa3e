package rec_test

import (
	"math"
	"math/rand/v2"
	"strings"
	"testing"

	"gabion/api"
	"gabion/crc"
	"gabion/le"
	"gabion/rec"
)

func TestSizeP12_1(t *testing.T) {
	for _, x := range []struct{ body, size int }{{0, 32}, {1, 40}, {7, 40}, {8, 48}, {14, 48}, {15, 56}, {1023, 1208}, {1024, 1208}} {
		r := rec.Record{Kind: 1, Body: strings.Repeat("b", x.body)}
		s, e := rec.Encode(rec.Stamp{}, r)
		if !r.Right() || r.Size() != x.size || len(s) != x.size || e != api.OK {
			t.Errorf("a body of %d bytes: %d, %d", x.body, r.Size(), len(s))
		}
	}
	for _, r := range []rec.Record{{}, {Kind: 0, Body: "x"}, {Kind: 255, Body: strings.Repeat("b", 1025)}, {Kind: 1, Body: strings.Repeat("b", 70000)}} {
		if s, e := rec.Encode(rec.Stamp{}, r); r.Right() || r.Size() != 0 || s != "" || e != api.ErrArg {
			t.Errorf("kind %d, %d bytes: %v", r.Kind, len(r.Body), e)
		}
	}
	if !(rec.Record{Kind: 255}).Right() {
		t.Error("kind 255")
	}
}

func TestEncodeP12_1(t *testing.T) {
	s, e := rec.Encode(rec.Stamp{Epoch: 0x04030201, Life: 0x08070605, Seq: 0x0c0b0a09}, rec.Record{Kind: 77, Body: "abcdefgh"})
	want := "\x08\x00\x4d\x01\x02\x03\x04\x11" + "\x05\x06\x07\x08\x09\x0a\x0b\x12" + "\x0c\x00\x00\x00\x00\x00\x00\x13" +
		"abcdefg\x20" + "h\x00\x00\x00\x00\x00\x00\x20"
	want += le.Put(uint64(crc.Sum32(want)), 4) + "\x00\x00\x00\x30"
	if s != want || e != api.OK {
		t.Errorf("%x, not %x", s, want)
	}
}

// sealed is an encoding with its sum made right.
func sealed(s string) string {
	n := len(s) - 8
	return s[:n] + le.Put(uint64(crc.Sum32(s[:n])), 4) + s[n+4:]
}

func decodes(s string) api.Errno {
	stamp, r, e := rec.Decode(s)
	if e != api.OK && (stamp != rec.Stamp{} || r != rec.Record{}) {
		return -1
	}
	return e
}

func TestDecodeP12_2(t *testing.T) {
	stamp := rec.Stamp{Epoch: 1, Life: 2, Seq: 3}
	s, _ := rec.Encode(stamp, rec.Record{Kind: 9, Body: "abcdefgh"})
	if e := decodes(sealed(s)); e != api.OK {
		t.Fatal(e)
	}
	for n := range len(s) {
		if e := decodes(s[:n]); e != api.ErrForm {
			t.Errorf("%d bytes: %v", n, e)
		}
	}
	// Marks and zero bytes are looked at even where the sum is right.
	for _, at := range []int{7, 15, 17, 18, 19, 20, 21, 22, 23, 31, 33, 34, 35, 36, 37, 38, 39, 44, 45, 46, 47} {
		b := []byte(s)
		b[at] ^= 4
		if e := decodes(sealed(string(b))); e != api.ErrForm {
			t.Errorf("byte %d: %v", at, e)
		}
	}
	for _, at := range []int{3, 6, 8, 14, 16, 24, 30, 32} {
		b := []byte(s)
		b[at] ^= 4
		if e := decodes(string(b)); e != api.ErrSum {
			t.Errorf("byte %d: %v", at, e)
		}
		if e := decodes(sealed(string(b))); e != api.OK {
			t.Errorf("byte %d, sealed: %v", at, e)
		}
	}
	for at := 40; at < 44; at++ {
		b := []byte(s)
		b[at] ^= 4
		if e := decodes(string(b)); e != api.ErrSum {
			t.Errorf("byte %d: %v", at, e)
		}
	}
	b := []byte(s)
	b[2] = 0
	if e := decodes(sealed(string(b))); e != api.ErrForm {
		t.Errorf("kind 0: %v", e)
	}
	long, _ := rec.Encode(stamp, rec.Record{Kind: 9, Body: strings.Repeat("x", 1024)})
	if e := decodes(long); e != api.OK {
		t.Errorf("1024 bytes: %v", e)
	}
	b = []byte(long)
	b[0] = 1 // 1025 bytes, which need as many words
	if e := decodes(sealed(string(b))); e != api.ErrForm {
		t.Errorf("1025 bytes: %v", e)
	}
	if e := decodes(""); e != api.ErrForm {
		t.Error(e)
	}
	if e := decodes(strings.Repeat("\x00", 100)); e != api.ErrForm {
		t.Error(e)
	}
}

func TestFollowsP12_3(t *testing.T) {
	top := uint32(math.MaxUint32)
	for _, x := range []struct {
		s, o rec.Stamp
		want bool
	}{
		{rec.Stamp{1, 2, 3}, rec.Stamp{1, 2, 2}, true}, {rec.Stamp{1, 3, 3}, rec.Stamp{1, 2, 2}, true}, {rec.Stamp{1, 1, 3}, rec.Stamp{1, 2, 2}, false},
		{rec.Stamp{2, 2, 3}, rec.Stamp{1, 2, 2}, false}, {rec.Stamp{1, 2, 2}, rec.Stamp{1, 2, 2}, false}, {rec.Stamp{1, 2, 4}, rec.Stamp{1, 2, 2}, false},
		{rec.Stamp{1, 2, 1}, rec.Stamp{1, 2, 2}, false}, {rec.Stamp{1, 2, 0}, rec.Stamp{1, 2, top}, false}, {rec.Stamp{top, top, top}, rec.Stamp{top, top, top - 1}, true},
		{rec.Stamp{0, 0, 1}, rec.Stamp{}, true}, {rec.Stamp{}, rec.Stamp{}, false}, {rec.Stamp{1, 2, top}, rec.Stamp{1, 2, top}, false},
	} {
		if x.s.Follows(x.o) != x.want {
			t.Errorf("%v behind %v", x.s, x.o)
		}
	}
}

func TestWholeP12_4(t *testing.T) {
	x := rand.New(rand.NewPCG(12, 1))
	for round := range 200 {
		body := make([]byte, x.IntN(60))
		if round%20 == 0 {
			body = make([]byte, 1000+x.IntN(25))
		}
		for i := range body {
			body[i] = []byte{17, 18, 19, 32, 48, 0, byte(x.Uint32())}[x.IntN(7)]
		}
		stamp := rec.Stamp{Epoch: x.Uint32(), Life: x.Uint32(), Seq: x.Uint32()}
		r := rec.Record{Kind: uint8(1 + x.IntN(255)), Body: string(body)}
		s, e := rec.Encode(stamp, r)
		if e != api.OK {
			t.Fatal(e)
		}
		got, q, e := rec.Decode(s + string(body))
		if got != stamp || q != r || e != api.OK {
			t.Fatalf("%v, %v, %v", got, q, e)
		}
		for range 40 {
			n := x.IntN(len(s))
			if decodes(s[:n]) != api.ErrForm {
				t.Fatalf("%d bytes of %d", n, len(s))
			}
			at := 2 + x.IntN(len(s)-2)
			b := []byte(s)
			b[at] ^= byte(1 + x.IntN(255))
			if e := decodes(string(b)); e != api.ErrForm && e != api.ErrSum {
				t.Fatalf("byte %d is another one: %v", at, e)
			}
		}
		for at := 8; at < len(s); at += 8 {
			if e := decodes(s[at:] + s); e != api.ErrForm {
				t.Fatalf("the word at %d: %v", at, e)
			}
		}
	}
}
