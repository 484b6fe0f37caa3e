package space_test

import (
	"math"
	"math/rand/v2"
	"strings"
	"testing"

	"gabion/api"
	"gabion/flat"
	"gabion/hot"
	"gabion/le"
	"gabion/pm"
	"gabion/space"
)

// made is a space of three pages.
func made(t *testing.T, c flat.Config, heat int) (*pm.Device, *space.Space) {
	t.Helper()
	d, e := pm.New(c.Size())
	if e != api.OK {
		t.Fatal(e)
	}
	if e := hot.Make(d, c); e != api.OK {
		t.Fatal(e)
	}
	return d, open(t, d, heat)
}

func open(t *testing.T, d *pm.Device, heat int) *space.Space {
	t.Helper()
	p, e := hot.Open(d, heat)
	if e != api.OK {
		t.Fatal(e)
	}
	s, e := space.New(p)
	if e != api.OK || s == nil {
		t.Fatal(e)
	}
	return s
}

func three() flat.Config {
	return flat.Config{Regions: 2, Lines: 24, Spares: 9, Psi: 7, Key: 1}
}

func reads(t *testing.T, s *space.Space, at int, want string) {
	t.Helper()
	if got, e := s.Read(at, len(want)); got != want || e != api.OK {
		t.Fatalf("Read(%d, %d) = %x, %v, not %x", at, len(want), got, e, want)
	}
}

func TestNewP11_1(t *testing.T) {
	if s, e := space.New(nil); s != nil || e != api.ErrNil {
		t.Error(e)
	}
	_, s := made(t, three(), 5)
	if s.Size() != 3*512 {
		t.Errorf("Size %d", s.Size())
	}
	reads(t, s, 0, strings.Repeat("\x00", 3*512))
}

func TestErrors(t *testing.T) {
	d, s := made(t, three(), 5)
	n := d.Count()
	for _, x := range [][2]int{{-1, 0}, {0, -1}, {1536, 1}, {1537, 0}, {0, 1537}, {1, 1536}, {math.MaxInt, 1}, {1, math.MaxInt}, {math.MaxInt, math.MaxInt}, {math.MinInt, math.MinInt}, {-1, 2}, {math.MinInt, 5}} {
		if b, e := s.Read(x[0], x[1]); b != "" || e != api.ErrRange {
			t.Errorf("P11.1: %v: %v", x, e)
		}
	}
	for _, x := range []int{-1, 1534, 1536, 1537, math.MinInt, math.MaxInt, math.MaxInt - 1} {
		if e := s.Write(x, "abc"); e != api.ErrRange {
			t.Errorf("P11.2: %d: %v", x, e)
		}
	}
	for _, x := range []struct {
		at int
		e  api.Errno
	}{{1, api.ErrArg}, {-1, api.ErrArg}, {-8, api.ErrRange}, {1536, api.ErrRange}, {1537, api.ErrArg}, {math.MaxInt, api.ErrArg}, {math.MaxInt - 7, api.ErrRange}, {math.MinInt, api.ErrRange}} {
		if v, e := s.Word(x.at); v != 0 || e != x.e || s.WriteWord(x.at, 7) != x.e {
			t.Errorf("P11.3: %d: %v", x.at, e)
		}
	}
	if d.Count() != n {
		t.Error("an error writes")
	}
	reads(t, s, 1536, "")
	if s.Write(1536, "") != api.OK || d.Count() != n {
		t.Error("P11.2: nothing is written")
	}
	var none *space.Space
	if _, e := none.Read(-1, 0); e != api.ErrNil || none.Size() != 0 || none.Write(-1, "") != api.ErrNil || none.WriteWord(1, 0) != api.ErrNil {
		t.Error("a nil space")
	}
	if _, e := none.Word(1); e != api.ErrNil {
		t.Error(e)
	}
	d.Fuse(1)
	d.Fence()
	if _, e := s.Read(0, 1); e != api.ErrPower || s.Write(0, "a") != api.ErrPower || s.WriteWord(0, 1) != api.ErrPower {
		t.Error("without power")
	}
	if v, e := s.Word(0); v != 0 || e != api.ErrPower {
		t.Error(e)
	}
}

func TestLinesP11_2(t *testing.T) {
	d, s := made(t, flat.Config{Regions: 2, Lines: 24, Spares: 0, Psi: 65535, Key: 1}, 1000)
	for _, x := range []struct {
		at, n, lines int
	}{{60, 8, 2}, {64, 64, 1}, {63, 66, 3}, {500, 40, 2}, {0, 1, 1}, {1535, 1, 1}, {0, 1536, 24}} {
		n := d.Count()
		if e := s.Write(x.at, strings.Repeat("z", x.n)); e != api.OK || d.Count() != n+10*x.lines {
			t.Errorf("%v: %v, %d operations", x, e, d.Count()-n)
		}
	}
	// Lines come in ascending order: the power fails at the second one.
	d.Fuse(11)
	if e := s.Write(500, strings.Repeat("y", 40)); e != api.ErrPower {
		t.Error(e)
	}
	d.Boot(nil)
	reads(t, open(t, d, 5), 499, "z"+strings.Repeat("y", 12)+strings.Repeat("z", 28))
}

func TestWordsP11_3(t *testing.T) {
	d, s := made(t, flat.Config{Regions: 2, Lines: 24, Spares: 0, Psi: 65535, Key: 1}, 1000)
	for at := 0; at < s.Size(); at += 8 {
		n := d.Count()
		if e := s.WriteWord(at, uint64(at)*7<<30+5); e != api.OK || d.Count() != n+3 {
			t.Fatal(e)
		}
	}
	for at := 0; at < s.Size(); at += 8 {
		if v, e := s.Word(at); v != uint64(at)*7<<30+5 || e != api.OK {
			t.Fatalf("word at %d: %x, %v", at, v, e)
		}
		reads(t, s, at, le.Put(uint64(at)*7<<30+5, 8))
	}
	s.Write(9, "abcdefg")
	if v, _ := s.Word(8); v>>8 != le.Get("abcdefg") {
		t.Errorf("%x", v)
	}
}

// TestPowerP11_4 lets lines break and the power fail anywhere.
func TestPowerP11_4(t *testing.T) {
	x := rand.New(rand.NewPCG(11, 1))
	for range 60 {
		d, s := made(t, three(), 3)
		now := make([]byte, s.Size())
		for range 50 {
			if x.IntN(20) == 0 {
				d.Break(1 + 2 + x.IntN(26))
			}
			if x.IntN(3) == 0 {
				d.Fuse(1 + x.IntN(150))
			}
			at := x.IntN(s.Size())
			b := make([]byte, x.IntN(min(200, s.Size()-at)))
			for i := range b {
				b[i] = byte(x.Uint32())
			}
			var e api.Errno
			word := x.IntN(4) == 0
			if word {
				at, b = at/8*8, []byte(le.Put(x.Uint64(), 8))
				e = s.WriteWord(at, le.Get(string(b)))
			} else {
				e = s.Write(at, string(b))
			}
			is := append([]byte(nil), now...)
			copy(is[at:], b)
			if e == api.OK {
				now = is
			}
			if e == api.ErrPower {
				d.Boot([]bool{x.IntN(2) == 0, true, false, x.IntN(2) == 0, x.IntN(2) == 0})
				s = open(t, d, 3)
			}
			got, f := s.Read(0, s.Size())
			if f != api.OK {
				t.Fatal(f)
			}
			if e == api.ErrPower || e == api.ErrSpares {
				for w := 0; w < len(got); w += 8 {
					if g := got[w : w+8]; g != string(now[w:w+8]) && g != string(is[w:w+8]) {
						t.Fatalf("the word at %d is %x, not %x or %x", w, g, now[w:w+8], is[w:w+8])
					}
				}
				now = []byte(got)
			}
			if got != string(now) {
				t.Fatal("the bytes are others")
			}
		}
	}
}
