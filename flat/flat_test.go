package flat_test

import (
	"math"
	"math/rand/v2"
	"strings"
	"testing"

	"gabion/api"
	"gabion/crc"
	"gabion/feistel"
	"gabion/flat"
	"gabion/le"
	"gabion/line"
	"gabion/pm"
)

var zeros = strings.Repeat("\x00", api.Line)

func device(t *testing.T, lines int) *pm.Device {
	t.Helper()
	d, e := pm.New(lines)
	if e != api.OK {
		t.Fatal(e)
	}
	return d
}

func open(t *testing.T, d *pm.Device) *flat.Flat {
	t.Helper()
	f, e := flat.Open(d)
	if e != api.OK || f == nil {
		t.Fatalf("Open: %v", e)
	}
	return f
}

func made(t *testing.T, c flat.Config) (*pm.Device, *flat.Flat) {
	t.Helper()
	d := device(t, c.Size())
	if e := flat.Make(d, c); e != api.OK {
		t.Fatalf("Make: %v", e)
	}
	return d, open(t, d)
}

func text(base uint64) string {
	var w [api.Words]uint64
	for k := range w {
		w[k] = base<<8 + uint64(k)
	}
	return le.Text(w)
}

func TestConfigP9_1(t *testing.T) {
	for _, x := range []struct {
		c     flat.Config
		lines int
		e     api.Errno
		size  int
	}{
		{flat.Config{2, 4, 0, 1, 9}, 13, api.OK, 13}, {flat.Config{2, 4, 0, 1, 9}, 12, api.ErrRange, 13},
		{flat.Config{1, 1, 0, 65535, 0}, 4, api.OK, 4}, {flat.Config{16, 8, 9, 1, 1}, 337, api.OK, 337},
		{flat.Config{16, 1024, 64, 1, 1}, 8192, api.ErrRange, 17569}, {flat.Config{0, 4, 0, 1, 0}, 99, api.ErrArg, 0},
		{flat.Config{17, 4, 0, 1, 0}, 999, api.ErrArg, 0}, {flat.Config{1, 0, 0, 1, 0}, 99, api.ErrArg, 0}, {flat.Config{1, 1025, 0, 1, 0}, 9999, api.ErrArg, 0},
		{flat.Config{1, 4, -1, 1, 0}, 99, api.ErrArg, 0}, {flat.Config{1, 4, 65, 1, 0}, 999, api.ErrArg, 0}, {flat.Config{1, 4, 0, 0, 0}, 99, api.ErrArg, 0},
		{flat.Config{1, 4, 0, 65536, 0}, 99, api.ErrArg, 0}, {flat.Config{math.MinInt, 4, 0, 1, 0}, 99, api.ErrArg, 0}, {flat.Config{1, math.MaxInt, math.MaxInt, 1, 0}, 99, api.ErrArg, 0},
		{flat.Config{2, 4, 0, 1, 9}, math.MinInt, api.ErrRange, 13}, {flat.Config{2, 4, 0, 1, 9}, math.MaxInt, api.OK, 13},
	} {
		if e := x.c.Check(x.lines); e != x.e || x.c.Size() != x.size {
			t.Errorf("%v on %d: %v, %d", x.c, x.lines, e, x.c.Size())
		}
	}
}

func TestHeadP9_1(t *testing.T) {
	c := flat.Config{Regions: 2, Lines: 300, Spares: 1, Psi: 0x1234, Key: 0x8877665544332211}
	d, f := made(t, c)
	want := "gabion01\x02\x00\x2c\x01\x01\x00\x34\x12\x11\x22\x33\x44\x55\x66\x77\x88" + strings.Repeat("\x00", 36)
	want += le.Put(uint64(crc.Sum32(want)), 4)
	if s, _ := line.Get(d, 0); s != want {
		t.Errorf("the head is %x", s)
	}
	if f.Config() != c || f.Lines() != 600 {
		t.Errorf("%v", f.Config())
	}
}

// put lays a head whose checksum is right.
func put(d *pm.Device, s string) {
	s = s[:60]
	line.Put(d, 0, s+le.Put(uint64(crc.Sum32(s)), 4))
}

func TestOpenP9_1(t *testing.T) {
	if f, e := flat.Open(nil); f != nil || e != api.ErrNil {
		t.Error(e)
	}
	d, _ := made(t, flat.Config{Regions: 2, Lines: 4, Spares: 1, Psi: 3, Key: 9})
	good, _ := line.Get(d, 0)
	put(d, good)
	open(t, d)
	for i := range 64 {
		b := []byte(good)
		b[i] ^= 1
		line.Put(d, 0, string(b))
		if f, e := flat.Open(d); f != nil || e != api.ErrForm {
			t.Errorf("byte %d is another one: %v", i, e)
		}
		if i < 60 {
			put(d, string(b))
			_, e := flat.Open(d)
			// Psi, the key, and fewer regions may be others.
			if may := i >= 14 && i < 24; !may && e != api.ErrForm && !(i == 10 || i == 12) {
				t.Errorf("byte %d is another one, with its sum: %v", i, e)
			} else if may && e != api.OK {
				t.Errorf("byte %d: %v", i, e)
			}
		}
	}
	for _, x := range []struct {
		at   int
		n    uint64
		want api.Errno
	}{{8, 0, api.ErrForm}, {8, 17, api.ErrForm}, {8, 3, api.ErrForm}, {8, 1, api.OK}, {10, 0, api.ErrForm}, {10, 1025, api.ErrForm}, {12, 65, api.ErrForm}, {14, 0, api.ErrForm}, {14, 65535, api.OK}} {
		put(d, good[:x.at]+le.Put(x.n, 2)+good[x.at+2:])
		if f, e := flat.Open(d); e != x.want || (f == nil) != (e != api.OK) {
			t.Errorf("%d at %d: %v", x.n, x.at, e)
		}
	}
	line.Put(d, 0, good)
	line.PutWord(d, 1, 0, 1)
	if f, e := flat.Open(d); f != nil || e != api.ErrSum {
		t.Error(e)
	}
	line.PutWord(d, 1, 0, 0)
	line.PutWord(d, 1+8+6, 0, 99)
	if f, e := flat.Open(d); f != nil || e != api.ErrForm {
		t.Error(e)
	}
	d.Fuse(1)
	d.Fence()
	if f, e := flat.Open(d); f != nil || e != api.ErrPower {
		t.Error(e)
	}
}

func TestMakeP9_1(t *testing.T) {
	c := flat.Config{Regions: 2, Lines: 4, Spares: 0, Psi: 3, Key: 9}
	if flat.Make(nil, flat.Config{}) != api.ErrNil || flat.Make(device(t, 12), flat.Config{}) != api.ErrArg || flat.Make(device(t, 12), c) != api.ErrRange {
		t.Error("errors of Make")
	}
	d := device(t, 13)
	d.Break(0)
	if flat.Make(d, c) != api.ErrSpares {
		t.Error("a bad head")
	}
	d = device(t, 13)
	flat.Make(d, c)
	d.Break(0)
	if flat.Make(d, c) != api.OK {
		t.Error("a bad head that has the bytes")
	}
	d = device(t, 13)
	d.Break(12)
	if flat.Make(d, c) != api.ErrSpares {
		t.Error("a bad register")
	}
}

// TestPowerInMakeP9_1: whatever was there, it can't be opened before all is laid.
func TestPowerInMakeP9_1(t *testing.T) {
	c := flat.Config{Regions: 2, Lines: 2, Spares: 1, Psi: 3, Key: 9}
	for n := 1; ; n++ {
		d, f := made(t, c)
		for l := range f.Lines() {
			f.Write(l, text(7))
		}
		d.Fuse(n)
		e := flat.Make(d, c)
		off := d.Off()
		d.Boot([]bool{n%2 == 0, true, n%3 == 0, true, true, true, true, true})
		f, o := flat.Open(d)
		if !off {
			if e != api.OK || o != api.OK {
				t.Fatal(e, o)
			}
			break
		}
		if e != api.ErrPower {
			t.Fatalf("fuse %d: %v", n, e)
		}
		if o == api.OK && n > 10 {
			for l := range f.Lines() {
				if s, _ := f.Read(l); s != zeros {
					t.Fatalf("fuse %d: line %d is %x", n, l, s)
				}
			}
		}
	}
}

func TestRegionsP9_2(t *testing.T) {
	d, f := made(t, flat.Config{Regions: 3, Lines: 4, Spares: 2, Psi: 1, Key: math.MaxUint64})
	for l := range 12 {
		if f.Region(l) != l/4 {
			t.Errorf("line %d is in region %d", l, f.Region(l))
		}
	}
	for _, l := range []int{-1, 12, math.MinInt, math.MaxInt} {
		if f.Region(l) != -1 || f.Moves(l) != 0 || f.Left(l) != 0 {
			t.Errorf("line %d", l)
		}
	}
	for range 4 {
		f.Write(5, text(1))
	}
	at, _ := f.Where(8)
	d.Break(at)
	f.Write(8, text(2))
	if f.Moves(0) != 0 || f.Moves(1) != 3 || f.Moves(2) != 0 || f.Left(0) != 2 || f.Left(1) != 2 || f.Left(2) != 1 || f.Moves(3) != 0 || f.Left(3) != 0 {
		t.Error("Moves and Left")
	}
	var none *flat.Flat
	if none.Config() != (flat.Config{}) || none.Lines() != 0 || none.Region(0) != -1 || none.Moves(0) != 0 || none.Left(0) != 0 {
		t.Error("a nil list")
	}
	if _, e := none.Where(0); e != api.ErrNil {
		t.Error(e)
	}
	if _, e := none.Read(-1); e != api.ErrNil {
		t.Error(e)
	}
	if none.Write(0, "") != api.ErrNil || none.WriteWord(0, 9, 1) != api.ErrNil {
		t.Error("a nil list is written")
	}
}

func TestErrorsP9_3(t *testing.T) {
	d, f := made(t, flat.Config{Regions: 2, Lines: 4, Spares: 0, Psi: 1, Key: 5})
	for _, l := range []int{-1, 8, math.MinInt, math.MaxInt} {
		if at, e := f.Where(l); at != 0 || e != api.ErrRange {
			t.Errorf("Where(%d): %v", l, e)
		}
		if s, e := f.Read(l); s != "" || e != api.ErrRange {
			t.Errorf("Read(%d): %v", l, e)
		}
		if f.Write(l, zeros) != api.ErrRange || f.Write(l, "") != api.ErrArg || f.WriteWord(l, 0, 1) != api.ErrRange || f.WriteWord(l, -1, 1) != api.ErrArg || f.WriteWord(l, 8, 1) != api.ErrArg {
			t.Errorf("writes of %d", l)
		}
	}
	at, _ := f.Where(3)
	d.Break(at)
	if e := f.Write(3, text(1)); e != api.ErrSpares {
		t.Error(e)
	}
	d.Fuse(1)
	d.Fence()
	if _, e := f.Read(0); e != api.ErrPower || f.Write(0, zeros) != api.ErrPower || f.WriteWord(0, 0, 0) != api.ErrPower {
		t.Error("without power")
	}
}

func TestPlacesP9_3_P9_4(t *testing.T) {
	c := flat.Config{Regions: 3, Lines: 21, Spares: 9, Psi: 2, Key: math.MaxUint64 - 1}
	_, f := made(t, c)
	seen := map[int]bool{}
	for l := range f.Lines() {
		p, _ := feistel.New(21, c.Key+uint64(l/21))
		want := 1 + l/21*(2+23+9) + 2 + p.To(l%21)
		at, e := f.Where(l)
		if at != want || e != api.OK || seen[at] {
			t.Errorf("line %d is at %d, not %d", l, at, want)
		}
		seen[at] = true
	}
}

// TestPowerP9_4 lets lines break and the power fail anywhere.
func TestPowerP9_4(t *testing.T) {
	x := rand.New(rand.NewPCG(8, 1))
	for range 120 {
		c := flat.Config{Regions: 1 + x.IntN(3), Lines: 1 + x.IntN(5), Spares: 10 + x.IntN(10), Psi: 1 + x.IntN(3), Key: x.Uint64()}
		d, f := made(t, c)
		now := make([]string, f.Lines())
		for i := range now {
			now[i] = zeros
		}
		for range 60 {
			l, k, v := x.IntN(f.Lines()), x.IntN(8), x.Uint64()
			if x.IntN(12) == 0 {
				at, _ := f.Where(x.IntN(f.Lines()))
				d.Break(at)
			}
			if x.IntN(4) == 0 {
				d.Fuse(1 + x.IntN(50))
			}
			was, is := now[l], text(v>>8)
			whole := x.IntN(2) == 0
			var e api.Errno
			if whole {
				e = f.Write(l, is)
			} else {
				is = was[:8*k] + le.Put(v, 8) + was[8*k+8:]
				e = f.WriteWord(l, k, v)
			}
			now[l] = is
			if e == api.ErrPower {
				d.Boot([]bool{true, x.IntN(2) == 0, false, x.IntN(2) == 0, true})
				f = open(t, d)
				got, _ := f.Read(l)
				if whole && !line.Mixed(was, is, got) || !whole && got != was && got != is {
					t.Fatalf("%x was %x, is %x", got, was, is)
				}
				now[l] = got
			} else if e == api.ErrSpares && f.Left(f.Region(l)) == 0 {
				now[l] = was
			} else if e != api.OK {
				t.Fatal(e)
			}
			at := map[int]bool{}
			for j := range now {
				s, e := f.Read(j)
				w, _ := f.Where(j)
				if s != now[j] || e != api.OK || at[w] {
					t.Fatalf("line %d reads %x, %v, not %x", j, s, e, now[j])
				}
				at[w] = true
			}
		}
	}
}
