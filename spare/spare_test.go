package spare_test

import (
	"math"
	"math/rand/v2"
	"strings"
	"testing"

	"gabion/api"
	"gabion/crc"
	"gabion/le"
	"gabion/line"
	"gabion/pm"
	"gabion/spare"
)

var zeros = strings.Repeat("\x00", api.Line)

func device(t *testing.T, lines int) *pm.Device {
	t.Helper()
	d, e := pm.New(lines)
	if e != api.OK {
		t.Fatal(e)
	}
	return d
}

func bank(t *testing.T, d *pm.Device, p spare.Plan) *spare.Bank {
	t.Helper()
	b, e := spare.Open(d, p)
	if e != api.OK || b == nil {
		t.Fatalf("Open: %v", e)
	}
	return b
}

// made is a fresh bank on a device of its own.
func made(t *testing.T, p spare.Plan) (*pm.Device, *spare.Bank) {
	t.Helper()
	d := device(t, p.At+p.Size())
	if e := spare.Format(d, p); e != api.OK {
		t.Fatalf("Format: %v", e)
	}
	return d, bank(t, d, p)
}

func text(base uint64) string {
	var w [api.Words]uint64
	for k := range w {
		w[k] = base<<8 + uint64(k)
	}
	return le.Text(w)
}

func reads(t *testing.T, b *spare.Bank, i int, want string) {
	t.Helper()
	if s, e := b.Read(i); s != want || e != api.OK {
		t.Fatalf("line %d reads %x, %v, not %x", i, s, e, want)
	}
}

func at(t *testing.T, b *spare.Bank, i, want int) {
	t.Helper()
	if n, e := b.Where(i); n != want || e != api.OK {
		t.Fatalf("line %d is at %d, %v, not at %d", i, n, e, want)
	}
}

func TestPlanP5_1(t *testing.T) {
	for _, x := range []struct {
		p     spare.Plan
		lines int
		e     api.Errno
		size  int
	}{
		{spare.Plan{0, 4, 2}, 7, api.OK, 7}, {spare.Plan{0, 4, 2}, 6, api.ErrRange, 7}, {spare.Plan{0, 4, 0}, 4, api.OK, 4},
		{spare.Plan{3, 4, 8}, 16, api.OK, 13}, {spare.Plan{3, 4, 9}, 18, api.OK, 15}, {spare.Plan{3, 4, 9}, 17, api.ErrRange, 15},
		{spare.Plan{0, 1, 0}, 1, api.OK, 1}, {spare.Plan{8192, 1, 0}, 8193, api.OK, 1}, {spare.Plan{8192, 1, 0}, 8192, api.ErrRange, 1},
		{spare.Plan{8193, 1, 0}, 9999, api.ErrArg, 0}, {spare.Plan{-1, 1, 0}, 9999, api.ErrArg, 0}, {spare.Plan{0, 0, 0}, 9, api.ErrArg, 0},
		{spare.Plan{0, 1026, 64}, 1098, api.OK, 1098}, {spare.Plan{0, 1027, 0}, 9999, api.ErrArg, 0}, {spare.Plan{0, 1, 65}, 9999, api.ErrArg, 0},
		{spare.Plan{0, 1, -1}, 9999, api.ErrArg, 0}, {spare.Plan{math.MaxInt, math.MaxInt, math.MaxInt}, 9, api.ErrArg, 0},
		{spare.Plan{0, 1, 0}, 0, api.ErrRange, 1}, {spare.Plan{0, 1, 0}, math.MinInt, api.ErrRange, 1}, {spare.Plan{0, 1, 0}, math.MaxInt, api.OK, 1},
	} {
		if e := x.p.Check(x.lines); e != x.e || x.p.Size() != x.size {
			t.Errorf("%v on %d: %v, %d", x.p, x.lines, e, x.p.Size())
		}
	}
}

func TestFormatP5_1(t *testing.T) {
	p := spare.Plan{At: 1, Lines: 3, Spares: 9}
	d := device(t, 16)
	for i := range 16 {
		line.Put(d, i, text(uint64(i)+1))
	}
	d.Break(4)
	n := d.Count()
	if e := spare.Format(d, p); e != api.OK || d.Count() != n+50 {
		t.Fatalf("%v, %d operations", e, d.Count()-n)
	}
	for i := range 16 {
		want := text(uint64(i) + 1)
		if i >= 1 && i < 6 && i != 4 {
			want = zeros
		}
		if s, _ := line.Get(d, i); s != want {
			t.Errorf("line %d: %x", i, s)
		}
	}
	if spare.Format(nil, spare.Plan{-1, 1, 1}) != api.ErrNil || spare.Format(d, spare.Plan{-1, 1, 1}) != api.ErrArg || spare.Format(d, spare.Plan{16, 1, 0}) != api.ErrRange {
		t.Error("errors of Format")
	}
	d.Fuse(15)
	if e := spare.Format(d, p); e != api.ErrPower {
		t.Error(e)
	}
}

func TestOpenP5_1(t *testing.T) {
	p := spare.Plan{At: 1, Lines: 3, Spares: 9}
	for i, x := range []struct {
		words []uint64
		e     api.Errno
		left  int
	}{
		{nil, api.OK, 9}, {[]uint64{crc.Guard(1)}, api.OK, 8}, {[]uint64{crc.Guard(3), crc.Guard(65535), crc.Guard(3)}, api.OK, 6},
		{[]uint64{1}, api.ErrSum, 0}, {[]uint64{crc.Guard(0)}, api.ErrSum, 0}, {[]uint64{crc.Guard(4)}, api.ErrSum, 0},
		{[]uint64{crc.Guard(65534)}, api.ErrSum, 0}, {[]uint64{crc.Guard(65536)}, api.ErrSum, 0}, {[]uint64{crc.Guard(1 << 47)}, api.ErrSum, 0},
		{[]uint64{0, crc.Guard(1)}, api.ErrSum, 0}, {[]uint64{crc.Guard(1), 0, crc.Guard(65535)}, api.ErrSum, 0},
		{[]uint64{7: crc.Guard(1)}, api.ErrSum, 0}, {[]uint64{8: crc.Guard(1)}, api.ErrSum, 0}, {[]uint64{9: 77}, api.OK, 9},
		{[]uint64{crc.Guard(1), crc.Guard(1), crc.Guard(1), crc.Guard(1), crc.Guard(1), crc.Guard(1), crc.Guard(1), crc.Guard(1), crc.Guard(2)}, api.OK, 0},
	} {
		d := device(t, 16)
		for k, w := range x.words {
			line.PutWord(d, 1+k/8, k%8, w)
		}
		b, e := spare.Open(d, p)
		if e != x.e || (b == nil) != (e != api.OK) || b.Left() != x.left {
			t.Errorf("%d: %v, %d", i, e, b.Left())
		}
		if i == 2 {
			at(t, b, 2, 8)
			at(t, b, 1, 4)
		}
	}
	d := device(t, 16)
	for _, x := range []struct {
		d *pm.Device
		p spare.Plan
		e api.Errno
	}{{nil, spare.Plan{}, api.ErrNil}, {d, spare.Plan{}, api.ErrArg}, {d, spare.Plan{3, 3, 9}, api.ErrRange}} {
		if b, e := spare.Open(x.d, x.p); b != nil || e != x.e {
			t.Errorf("%v: %v", x.p, e)
		}
	}
	d.Fuse(1)
	d.Fence()
	if b, e := spare.Open(d, p); b != nil || e != api.ErrPower {
		t.Error(e)
	}
}

func TestExampleP5_2(t *testing.T) {
	_, b := made(t, spare.Plan{At: 0, Lines: 4, Spares: 2})
	for i := range 4 {
		at(t, b, i, i+1)
		reads(t, b, i, zeros)
	}
	if b.Lines() != 4 || b.Left() != 2 {
		t.Error("Lines and Left")
	}
}

var outside = []int{-1, 4, math.MinInt, math.MaxInt}

func TestErrorsP5_2_P5_3(t *testing.T) {
	d, b := made(t, spare.Plan{At: 0, Lines: 4, Spares: 2})
	n := d.Count()
	for _, i := range outside {
		if w, e := b.Where(i); w != 0 || e != api.ErrRange {
			t.Errorf("Where(%d): %v", i, e)
		}
		if s, e := b.Read(i); s != "" || e != api.ErrRange {
			t.Errorf("Read(%d): %v", i, e)
		}
		if b.Write(i, zeros) != api.ErrRange || b.Write(i, "x") != api.ErrArg || b.WriteWord(i, 7, 1) != api.ErrRange || b.WriteWord(i, 8, 1) != api.ErrArg || b.WriteWord(i, -1, 1) != api.ErrArg {
			t.Errorf("writes of %d", i)
		}
	}
	if b.Write(0, "") != api.ErrArg || b.Write(0, zeros+"x") != api.ErrArg || b.WriteWord(0, math.MaxInt, 1) != api.ErrArg || d.Count() != n {
		t.Error("arguments")
	}
	var none *spare.Bank
	if _, e := none.Where(0); e != api.ErrNil {
		t.Error(e)
	}
	if _, e := none.Read(0); e != api.ErrNil {
		t.Error(e)
	}
	if none.Lines() != 0 || none.Left() != 0 || none.Write(0, "") != api.ErrNil || none.WriteWord(0, 9, 1) != api.ErrNil {
		t.Error("a nil bank")
	}
	d.Fuse(1)
	d.Fence()
	if s, e := b.Read(0); s != "" || e != api.ErrPower || b.Write(0, zeros) != api.ErrPower || b.WriteWord(0, 0, 1) != api.ErrPower {
		t.Error("without power")
	}
}

func TestWriteP5_3(t *testing.T) {
	p := spare.Plan{At: 0, Lines: 4, Spares: 3}
	d, b := made(t, p)
	n := d.Count()
	if e := b.Write(1, text(5)); e != api.OK || d.Count() != n+10 {
		t.Errorf("%v, %d", e, d.Count()-n)
	}
	if e := b.WriteWord(2, 7, 9); e != api.OK || d.Count() != n+13 {
		t.Errorf("%v, %d", e, d.Count()-n)
	}
	reads(t, b, 1, text(5))
	reads(t, b, 2, zeros[:56]+le.Put(9, 8))
	d.Break(2)
	d.Break(5)
	reads(t, b, 1, text(5))
	n = d.Count()
	if e := b.Write(1, text(6)); e != api.OK || d.Count() != n+10+13+13 || b.Left() != 1 {
		t.Fatalf("a line retires, its first spare is dead: %v, %d, %d", e, d.Count()-n, b.Left())
	}
	at(t, b, 1, 6)
	reads(t, b, 1, text(6))
	if d.Media(0) != crc.Guard(65535) || d.Media(1) != crc.Guard(2) || d.Media(2) != 0 {
		t.Error("the table")
	}
	if e := b.Write(1, text(7)); e != api.OK || b.Left() != 1 {
		t.Error("the spare is written like a line")
	}
	d.Break(6)
	if e := b.WriteWord(1, 3, 1); e != api.OK || b.Left() != 0 {
		t.Fatal(e)
	}
	is := text(7)[:24] + le.Put(1, 8) + text(7)[32:]
	reads(t, b, 1, is)
	at(t, b, 1, 7)
	d.Break(3)
	if b.Write(2, text(1)) != api.ErrSpares || b.WriteWord(2, 0, 1) != api.ErrSpares {
		t.Error("no spare is left")
	}
	reads(t, b, 2, zeros[:56]+le.Put(9, 8))
	if b.WriteWord(2, 7, 9) != api.OK || b.Write(0, text(3)) != api.OK {
		t.Error("what a bad line has already, and another line")
	}
	again := bank(t, d, p)
	reads(t, again, 1, is)
	reads(t, again, 0, text(3))
	at(t, again, 1, 7)
	if again.Left() != 0 {
		t.Error("Left")
	}
}

func TestDeadSparesP5_3(t *testing.T) {
	p := spare.Plan{At: 2, Lines: 2, Spares: 10}
	d, b := made(t, p)
	b.Write(1, text(4))
	for i := 4; i < p.At+p.Size(); i++ {
		d.Break(i)
	}
	if e := b.Write(1, text(5)); e != api.ErrSpares || b.Left() != 0 {
		t.Fatalf("%v, %d", e, b.Left())
	}
	reads(t, b, 1, text(4))
	for k := range 10 {
		if d.Media(16+k) != crc.Guard(65535) {
			t.Errorf("spare %d is not dead", k)
		}
	}
	reads(t, bank(t, d, p), 1, text(4))
}

// TestPowerP5_4 lets lines break and the power fail anywhere.
func TestPowerP5_4(t *testing.T) {
	r := rand.New(rand.NewPCG(6, 1))
	for round := range 400 {
		p := spare.Plan{At: r.IntN(2), Lines: 1 + r.IntN(4), Spares: r.IntN(12)}
		d, b := made(t, p)
		first := p.At + (p.Spares+7)/8
		now := make([]string, p.Lines)
		for i := range now {
			now[i] = zeros
		}
		for range 60 {
			if r.IntN(6) == 0 {
				d.Break(first + r.IntN(p.Lines+p.Spares))
			}
			if r.IntN(3) == 0 {
				d.Fuse(1 + r.IntN(30))
			}
			i, k, v := r.IntN(p.Lines), r.IntN(8), r.Uint64()
			was, is := now[i], text(v>>8)
			whole := r.IntN(2) == 0
			var e api.Errno
			if whole {
				e = b.Write(i, is)
			} else {
				is = was[:8*k] + le.Put(v, 8) + was[8*k+8:]
				e = b.WriteWord(i, k, v)
			}
			switch e {
			case api.OK:
				now[i] = is
			case api.ErrSpares:
				if b.Left() != 0 {
					t.Fatalf("round %d: spares are left", round)
				}
			case api.ErrPower:
				keep := make([]bool, 9)
				for j := range keep {
					keep[j] = r.IntN(2) == 0
				}
				d.Boot(keep)
				b = bank(t, d, p)
				got, _ := b.Read(i)
				if whole && !line.Mixed(was, is, got) || !whole && got != was && got != is {
					t.Fatalf("round %d: %x was %x, is %x", round, got, was, is)
				}
				now[i] = got
			default:
				t.Fatal(e)
			}
			for j := range now {
				reads(t, b, j, now[j])
			}
		}
	}
}
