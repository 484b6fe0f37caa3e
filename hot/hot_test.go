package hot_test

import (
	"math"
	"math/rand/v2"
	"strings"
	"testing"

	"gabion/api"
	"gabion/crc"
	"gabion/flat"
	"gabion/hot"
	"gabion/le"
	"gabion/line"
	"gabion/pm"
)

var zeros = strings.Repeat("\x00", api.Line)

func config(regions, lines, spares, psi int, key uint64) flat.Config {
	return flat.Config{Regions: regions, Lines: lines, Spares: spares, Psi: psi, Key: key}
}

func device(t *testing.T, lines int) *pm.Device {
	t.Helper()
	d, e := pm.New(lines)
	if e != api.OK {
		t.Fatal(e)
	}
	return d
}

func open(t *testing.T, d *pm.Device, heat int) *hot.Pages {
	t.Helper()
	p, e := hot.Open(d, heat)
	if e != api.OK || p == nil {
		t.Fatalf("Open: %v", e)
	}
	return p
}

func made(t *testing.T, c flat.Config, heat int) (*pm.Device, *hot.Pages) {
	t.Helper()
	d := device(t, c.Size())
	if e := hot.Make(d, c); e != api.OK {
		t.Fatalf("Make: %v", e)
	}
	return d, open(t, d, heat)
}

func text(base uint64) string {
	var w [api.Words]uint64
	for k := range w {
		w[k] = base<<8 + uint64(k)
	}
	return le.Text(w)
}

// word is the table's word for the page g, as the list of lines has it.
func word(t *testing.T, f *flat.Flat, g int) uint64 {
	t.Helper()
	s, e := f.Read(g/64*8 + g%64/8)
	if e != api.OK {
		t.Fatal(e)
	}
	return le.Get(s[g%8*8:])
}

func TestCountP10_1(t *testing.T) {
	for _, x := range []struct {
		c       flat.Config
		g, h, f int
	}{
		{config(2, 16, 0, 1, 0), 1, 1, 2}, {config(1, 16, 0, 1, 0), 0, 0, 0}, {config(1, 24, 0, 1, 0), 1, 1, 1},
		{config(2, 64, 0, 5, 1), 13, 1, 2}, {config(1, 8*66, 0, 1, 0), 64, 1, 1}, {config(1, 8*67, 0, 1, 0), 64, 1, 1},
		{config(1, 8*68, 0, 1, 0), 65, 2, 1}, {config(16, 1024, 0, 1, 0), 2000, 32, 16}, {config(2, 12, 0, 1, 0), 0, 0, 0},
		{config(2, 100, 0, 1, 0), 0, 0, 0}, {config(3, 8, 0, 1, 0), 0, 0, 0}, {config(0, 64, 0, 1, 0), 0, 0, 0},
		{config(17, 64, 0, 1, 0), 0, 0, 0}, {config(2, 64, -1, 1, 0), 0, 0, 0}, {config(2, 64, 0, 0, 0), 0, 0, 0},
		{config(2, 64, 65, 1, 0), 0, 0, 0}, {config(2, 0, 0, 1, 0), 0, 0, 0}, {config(2, 2048, 0, 1, 0), 0, 0, 0},
		{config(math.MaxInt, math.MinInt, 0, 1, 0), 0, 0, 0},
	} {
		if g, h, f := hot.Count(x.c); g != x.g || h != x.h || f != x.f {
			t.Errorf("%v: %d, %d, %d", x.c, g, h, f)
		}
	}
}

func TestMakeP10_1(t *testing.T) {
	c := flat.Config{Regions: 2, Lines: 64, Spares: 1, Psi: 50, Key: 3}
	if hot.Make(nil, flat.Config{}) != api.ErrNil || hot.Make(device(t, 9), flat.Config{}) != api.ErrArg || hot.Make(device(t, 9), config(2, 12, 0, 1, 0)) != api.ErrArg || hot.Make(device(t, 9), c) != api.ErrRange {
		t.Error("errors of Make")
	}
	d, p := made(t, c, 3)
	f, _ := flat.Open(d)
	if p.Len() != 13 || p.Flat().Config() != c {
		t.Errorf("%d pages", p.Len())
	}
	for g := range 13 {
		if at, e := p.Frame(g); at != 1+g || e != api.OK || p.Moved(g) != 0 || p.Heat(g) != 0 || word(t, f, g) != crc.Guard(uint64(1+g)) {
			t.Errorf("page %d is at %d", g, at)
		}
		for i := range 8 {
			if s, e := p.Read(g, i); s != zeros || e != api.OK {
				t.Errorf("page %d", g)
			}
		}
	}
	big := flat.Config{Regions: 1, Lines: 8 * 68, Spares: 0, Psi: 65535, Key: 3}
	d, p = made(t, big, 1)
	f, _ = flat.Open(d)
	if at, _ := p.Frame(64); p.Len() != 65 || at != 66 || word(t, f, 64) != crc.Guard(66) || word(t, f, 63) != crc.Guard(65) {
		t.Error("the table's second frame")
	}
}

func TestOpenP10_1(t *testing.T) {
	c := flat.Config{Regions: 2, Lines: 64, Spares: 0, Psi: 65535, Key: 3}
	d, _ := made(t, c, 1)
	for _, heat := range []int{0, -1, math.MinInt} {
		if p, e := hot.Open(d, heat); p != nil || e != api.ErrArg {
			t.Errorf("heat %d: %v", heat, e)
		}
	}
	if p, e := hot.Open(nil, 0); p != nil || e != api.ErrNil {
		t.Error(e)
	}
	if p, e := hot.Open(device(t, 9), 1); p != nil || e != api.ErrForm {
		t.Error(e)
	}
	open(t, d, math.MaxInt)
	odd := device(t, 99)
	flat.Make(odd, flat.Config{Regions: 2, Lines: 12, Spares: 0, Psi: 1})
	if p, e := hot.Open(odd, 1); p != nil || e != api.ErrForm {
		t.Errorf("not suitable for pages: %v", e)
	}
	f, _ := flat.Open(d)
	for _, x := range []struct {
		g    int
		word uint64
		want api.Errno
	}{
		{4, 0, api.ErrForm}, {4, crc.Guard(5) + 1, api.ErrForm}, {4, crc.Guard(0), api.ErrForm}, {4, crc.Guard(6), api.ErrForm}, {4, crc.Guard(4), api.ErrForm},
		{4, crc.Guard(16), api.ErrForm}, {4, crc.Guard(65535), api.ErrForm}, {4, crc.Guard(15), api.OK}, {4, crc.Guard(14 + 7<<16), api.OK}, {12, crc.Guard(0xffffffff000d), api.OK},
	} {
		f.WriteWord(x.g/8, x.g%8, x.word)
		p, e := hot.Open(d, 1)
		if e != x.want || (p == nil) != (e != api.OK) {
			t.Errorf("%x for page %d: %v", x.word, x.g, e)
		}
		if e == api.OK {
			n, _ := crc.Guarded(x.word)
			if at, _ := p.Frame(x.g); at != int(n&65535) || p.Moved(x.g) != int(n>>16) {
				t.Errorf("page %d is at %d, moved %d", x.g, at, p.Moved(x.g))
			}
		}
	}
	d.Fuse(1)
	d.Fence()
	if p, e := hot.Open(d, 1); p != nil || e != api.ErrPower {
		t.Error(e)
	}
}

func TestErrorsP10_2_P10_3(t *testing.T) {
	d, p := made(t, flat.Config{Regions: 2, Lines: 16, Spares: 0, Psi: 100, Key: 3}, 1)
	n := d.Count()
	for _, g := range []int{-1, 1, math.MinInt, math.MaxInt} {
		if at, e := p.Frame(g); at != 0 || e != api.ErrRange || p.Heat(g) != 0 || p.Moved(g) != 0 {
			t.Errorf("page %d: %v", g, e)
		}
	}
	for _, x := range [][2]int{{-1, 0}, {1, 0}, {0, -1}, {0, 8}, {math.MinInt, 0}, {math.MaxInt, 0}, {0, math.MinInt}, {0, math.MaxInt}} {
		if s, e := p.Read(x[0], x[1]); s != "" || e != api.ErrRange {
			t.Errorf("Read %v: %v", x, e)
		}
		if p.Write(x[0], x[1], zeros) != api.ErrRange || p.Write(x[0], x[1], "") != api.ErrArg || p.WriteWord(x[0], x[1], 0, 1) != api.ErrRange || p.WriteWord(x[0], x[1], 8, 1) != api.ErrArg || p.WriteWord(x[0], x[1], -1, 1) != api.ErrArg {
			t.Errorf("writes of %v", x)
		}
	}
	if d.Count() != n || p.Heat(0) != 0 {
		t.Error("an error changes something")
	}
	var none *hot.Pages
	if none.Len() != 0 || none.Flat() != nil || none.Heat(0) != 0 || none.Moved(0) != 0 {
		t.Error("nil pages")
	}
	if _, e := none.Frame(0); e != api.ErrNil {
		t.Error(e)
	}
	if _, e := none.Read(0, 9); e != api.ErrNil || none.Write(0, 9, "") != api.ErrNil || none.WriteWord(0, 0, 9, 1) != api.ErrNil {
		t.Error("nil pages")
	}
	d.Fuse(1)
	d.Fence()
	if _, e := p.Read(0, 0); e != api.ErrPower || p.Write(0, 0, zeros) != api.ErrPower || p.WriteWord(0, 0, 0, 0) != api.ErrPower || p.Heat(0) != 0 {
		t.Error("without power")
	}
}

// TestMoveP10_2 follows one page, whose region moves with each write.
func TestMoveP10_2(t *testing.T) {
	c := flat.Config{Regions: 2, Lines: 16, Spares: 0, Psi: 1, Key: 3}
	d, p := made(t, c, 2)
	m0, m1 := p.Flat().Moves(0), p.Flat().Moves(1)
	if at, _ := p.Frame(0); at != 1 || m0 != 0 || m1 != 0 {
		t.Fatalf("%d, %d, %d", at, m0, m1)
	}
	p.Write(0, 3, text(1))
	p.WriteWord(0, 7, 1, 5)
	if p.Heat(0) != 2 || p.Flat().Moves(0) == 0 {
		t.Fatalf("heat %d", p.Heat(0))
	}
	if e := p.Write(0, 0, text(2)); e != api.OK {
		t.Fatal(e)
	}
	if at, _ := p.Frame(0); at != 2 || p.Moved(0) != 1 || p.Heat(0) != 1 || word(t, p.Flat(), 0) != crc.Guard(2+1<<16) {
		t.Errorf("the page is at %d, moved %d, heat %d", at, p.Moved(0), p.Heat(0))
	}
	for i, want := range []string{text(2), zeros, zeros, text(1), zeros, zeros, zeros, zeros[:8] + le.Put(5, 8) + zeros[16:]} {
		if s, _ := p.Read(0, i); s != want {
			t.Errorf("line %d reads %x", i, s)
		}
	}
	// Now region 1 has moved more: the page goes back, to the first frame that is free there.
	p.Write(0, 0, text(3))
	if p.Heat(0) != 2 || p.Flat().Moves(1) <= p.Flat().Moves(0) {
		t.Fatalf("heat %d, moves %d and %d", p.Heat(0), p.Flat().Moves(0), p.Flat().Moves(1))
	}
	p.Write(0, 0, text(4))
	if at, _ := p.Frame(0); at != 1 || p.Moved(0) != 2 || p.Heat(0) != 1 {
		t.Errorf("the page is at %d, moved %d", at, p.Moved(0))
	}
	again := open(t, d, 2)
	if at, _ := again.Frame(0); at != 1 || again.Moved(0) != 2 || again.Heat(0) != 0 {
		t.Error("opened anew")
	}
}

func TestStayP10_2(t *testing.T) {
	_, p := made(t, flat.Config{Regions: 2, Lines: 16, Spares: 0, Psi: 65535, Key: 3}, 3)
	for i := range 10 {
		if p.Heat(0) != min(i, (i+2)%3+1) {
			t.Errorf("write %d: heat %d", i, p.Heat(0))
		}
		p.Write(0, i%8, text(1))
		if at, _ := p.Frame(0); at != 1 || p.Moved(0) != 0 {
			t.Error("no region has moved less")
		}
	}
}

// TestModel follows all pages of several regions against the document's rule.
func TestModel(t *testing.T) {
	x := rand.New(rand.NewPCG(9, 1))
	for _, c := range []flat.Config{config(3, 16, 0, 2, 5), config(4, 24, 0, 1, 6), config(1, 8*67, 0, 3, 7), config(2, 40, 0, 4, 8)} {
		heat := 1 + x.IntN(4)
		_, p := made(t, c, heat)
		g, tab, _ := hot.Count(c)
		frames := c.Regions * c.Lines / 8
		at, hits := make([]int, g), make([]int, g)
		for i := range at {
			at[i] = tab + i
		}
		for range 500 {
			i := x.IntN(min(g, 5))
			if hits[i] >= heat {
				hits[i] = 0
				busy := map[int]bool{}
				for _, q := range at {
					busy[q] = true
				}
				best := -1
				for q := tab; q < frames; q++ {
					if !busy[q] && (best < 0 || p.Flat().Moves(p.Flat().Region(8*q)) < p.Flat().Moves(p.Flat().Region(8*best))) {
						best = q
					}
				}
				if p.Flat().Moves(p.Flat().Region(8*best)) < p.Flat().Moves(p.Flat().Region(8*at[i])) {
					at[i] = best
				}
			}
			if e := p.Write(i, x.IntN(8), text(x.Uint64())); e != api.OK {
				t.Fatal(e)
			}
			hits[i]++
			for j := range at {
				if q, _ := p.Frame(j); q != at[j] || p.Heat(j) != hits[j] {
					t.Fatalf("page %d is at %d, not %d; heat %d, not %d", j, q, at[j], p.Heat(j), hits[j])
				}
			}
		}
	}
}

// TestSparesP10_3: a hot page can't move any more; its count stays.
func TestSparesP10_3(t *testing.T) {
	c := flat.Config{Regions: 2, Lines: 16, Spares: 0, Psi: 2, Key: 3}
	d, p := made(t, c, 4)
	for i := range 4 {
		p.Write(0, i, text(uint64(i)))
	}
	for at := range d.Lines() {
		d.Break(at)
	}
	for range 3 {
		if e := p.Write(0, 0, text(9)); e != api.ErrSpares || p.Heat(0) != 4 || p.Moved(0) != 0 {
			t.Errorf("%v, heat %d", e, p.Heat(0))
		}
	}
	if at, _ := p.Frame(0); at != 1 {
		t.Errorf("the page is at %d", at)
	}
	for _, q := range []*hot.Pages{p, open(t, d, 1)} {
		for i := range 4 {
			if s, _ := q.Read(0, i); s != text(uint64(i)) {
				t.Errorf("line %d reads %x", i, s)
			}
		}
	}
}

// TestPowerP10_4 lets lines break and the power fail anywhere.
func TestPowerP10_4(t *testing.T) {
	x := rand.New(rand.NewPCG(10, 1))
	moved := 0
	for range 150 {
		c := flat.Config{Regions: 2 + x.IntN(2), Lines: 16, Spares: 3 + x.IntN(10), Psi: 1 + x.IntN(3), Key: x.Uint64()}
		heat := 1 + x.IntN(4)
		d, p := made(t, c, heat)
		now := make([]string, 8*p.Len())
		for i := range now {
			now[i] = zeros
		}
		for range 40 {
			l, k, v := x.IntN(len(now)), x.IntN(8), x.Uint64()
			if x.IntN(12) == 0 {
				at, _ := p.Flat().Where(x.IntN(p.Flat().Lines()))
				d.Break(at)
			}
			if x.IntN(3) == 0 {
				d.Fuse(1 + x.IntN(200))
			}
			was, is := now[l], text(v>>8)
			whole := x.IntN(2) == 0
			var e api.Errno
			if whole {
				e = p.Write(l/8, l%8, is)
			} else {
				is = was[:8*k] + le.Put(v, 8) + was[8*k+8:]
				e = p.WriteWord(l/8, l%8, k, v)
			}
			now[l] = is
			if e == api.ErrPower {
				d.Boot([]bool{true, x.IntN(2) == 0, false, x.IntN(2) == 0, true})
				p = open(t, d, heat)
				got, _ := p.Read(l/8, l%8)
				if whole && !line.Mixed(was, is, got) || !whole && got != was && got != is {
					t.Fatalf("%x was %x, is %x", got, was, is)
				}
				now[l] = got
			} else if e == api.ErrSpares {
				now[l] = was
			} else if e != api.OK {
				t.Fatal(e)
			}
			for j := range now {
				if s, e := p.Read(j/8, j%8); s != now[j] || e != api.OK {
					t.Fatalf("line %d reads %x, %v, not %x", j, s, e, now[j])
				}
			}
		}
		for g := range p.Len() {
			moved += p.Moved(g)
		}
	}
	if moved < 100 {
		t.Errorf("only %d moves", moved)
	}
}

// TestMoveFailsP10_3: the page could be written where it is, but not moved, since a line of another frame, or of the table, is bad.
func TestMoveFailsP10_3(t *testing.T) {
	c := config(2, 16, 0, 12, 3)
	for _, bad := range []int{16, 19, 23, 0} { // lines of the list: those of the frame 2, and the table's
		d, p := made(t, c, 13)
		for i := range 13 {
			if e := p.Write(0, i%8, text(uint64(1+i%8))); e != api.OK {
				t.Fatal(e)
			}
		}
		if p.Flat().Moves(0) <= p.Flat().Moves(1) {
			t.Fatal("the page would stay")
		}
		at, _ := p.Flat().Where(bad)
		d.Break(at)
		for range 2 {
			if e := p.Write(0, 0, text(9)); e != api.ErrSpares || p.Heat(0) != 13 || p.Moved(0) != 0 {
				t.Errorf("line %d is bad: %v, heat %d", bad, e, p.Heat(0))
			}
		}
		if at, _ := p.Frame(0); at != 1 {
			t.Errorf("the page is at %d", at)
		}
		for i := range 8 {
			if s, _ := p.Read(0, i); s != text(uint64(1+i)) {
				t.Errorf("line %d reads %x", i, s)
			}
		}
	}
}

func TestMakeFailsP10_1(t *testing.T) {
	c := config(2, 16, 0, 100, 3)
	_, p := made(t, c, 1)
	table, _ := p.Flat().Where(0)
	d := device(t, c.Size())
	d.Break(table)
	if e := hot.Make(d, c); e != api.ErrSpares {
		t.Errorf("the table is bad: %v", e)
	}
	d = device(t, c.Size())
	d.Break(0)
	if e := hot.Make(d, c); e != api.ErrSpares {
		t.Errorf("the head is bad: %v", e)
	}
	for n := 1; ; n++ {
		d := device(t, c.Size())
		d.Fuse(n)
		e := hot.Make(d, c)
		if !d.Off() {
			if e != api.OK || n < 100 {
				t.Error(n, e)
			}
			break
		}
		d.Boot(nil)
		if p, o := hot.Open(d, 1); e != api.ErrPower || o != api.ErrForm || p != nil {
			t.Fatalf("fuse %d: %v, %v", n, e, o)
		}
	}
}
