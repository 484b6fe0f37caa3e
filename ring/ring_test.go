package ring_test

import (
	"math"
	"math/rand/v2"
	"strings"
	"testing"

	"gabion/api"
	"gabion/gap"
	"gabion/le"
	"gabion/line"
	"gabion/pm"
	"gabion/ring"
	"gabion/spare"
)

var zeros = strings.Repeat("\x00", api.Line)

func device(t *testing.T, lines int) *pm.Device {
	t.Helper()
	d, e := pm.New(lines)
	if e != api.OK {
		t.Fatal(e)
	}
	return d
}

func open(t *testing.T, d *pm.Device, p ring.Plan) *ring.Ring {
	t.Helper()
	r, e := ring.Open(d, p)
	if e != api.OK || r == nil {
		t.Fatalf("Open: %v", e)
	}
	return r
}

func made(t *testing.T, p ring.Plan) (*pm.Device, *ring.Ring) {
	t.Helper()
	d := device(t, p.At+p.Bank().Size())
	if e := ring.Format(d, p); e != api.OK {
		t.Fatalf("Format: %v", e)
	}
	return d, open(t, d, p)
}

func text(base uint64) string {
	var w [api.Words]uint64
	for k := range w {
		w[k] = base<<8 + uint64(k)
	}
	return le.Text(w)
}

func reads(t *testing.T, r *ring.Ring, i int, want string) {
	t.Helper()
	if s, e := r.Read(i); s != want || e != api.OK {
		t.Fatalf("line %d reads %x, %v, not %x", i, s, e, want)
	}
}

func TestPlanP7_1(t *testing.T) {
	if got := (ring.Plan{At: 3, Lines: 4, Spares: 5, Psi: 6}).Bank(); got != (spare.Plan{At: 3, Lines: 6, Spares: 5}) {
		t.Error(got)
	}
	for _, x := range []struct {
		p     ring.Plan
		lines int
		e     api.Errno
	}{
		{ring.Plan{0, 4, 2, 1}, 9, api.OK}, {ring.Plan{0, 4, 2, 1}, 8, api.ErrRange}, {ring.Plan{1, 4, 2, 1}, 9, api.ErrRange},
		{ring.Plan{0, 1, 0, 65535}, 3, api.OK}, {ring.Plan{0, 1, 0, 65536}, 3, api.ErrArg}, {ring.Plan{0, 1, 0, 0}, 3, api.ErrArg},
		{ring.Plan{0, 0, 0, 1}, 3, api.ErrArg}, {ring.Plan{0, -1, 0, 1}, 3, api.ErrArg}, {ring.Plan{0, 1024, 64, 1}, 1098, api.OK},
		{ring.Plan{0, 1025, 0, 1}, 8000, api.ErrArg}, {ring.Plan{-1, 4, 0, 1}, 8000, api.ErrArg}, {ring.Plan{0, 4, 65, 1}, 8000, api.ErrArg},
		{ring.Plan{0, math.MaxInt, 0, 1}, 3, api.ErrArg}, {ring.Plan{0, 4, 0, math.MinInt}, 8000, api.ErrArg},
	} {
		if e := x.p.Check(x.lines); e != x.e {
			t.Errorf("%v on %d: %v", x.p, x.lines, e)
		}
	}
}

func TestFormatP7_1(t *testing.T) {
	p := ring.Plan{At: 1, Lines: 4, Spares: 2, Psi: 2}
	d, r := made(t, p)
	if r.State() != gap.First(4) || r.Since() != 0 || r.Left() != 2 || d.Media(8*7) != gap.First(4).Pack() {
		t.Errorf("%v, %d, %d", r.State(), r.Since(), r.Left())
	}
	for i := range 4 {
		reads(t, r, i, zeros)
		if at, e := r.Where(i); at != 2+i || e != api.OK {
			t.Errorf("line %d is at %d, %v", i, at, e)
		}
	}
	if ring.Format(nil, ring.Plan{}) != api.ErrNil || ring.Format(d, ring.Plan{}) != api.ErrArg || ring.Format(d, ring.Plan{3, 4, 2, 1}) != api.ErrRange {
		t.Error("errors of Format")
	}
	d = device(t, 10)
	d.Break(7)
	if ring.Format(d, p) != api.OK || open(t, d, p).Left() != 1 {
		t.Error("a register that is bad retires")
	}
	d = device(t, 10)
	for i := 7; i < 10; i++ {
		d.Break(i)
	}
	if e := ring.Format(d, p); e != api.ErrSpares {
		t.Error(e)
	}
	d.Fuse(8)
	if e := ring.Format(d, p); e != api.ErrPower {
		t.Error(e)
	}
}

func TestOpenP7_1(t *testing.T) {
	p := ring.Plan{At: 1, Lines: 4, Spares: 2, Psi: 2}
	d, _ := made(t, p)
	for _, x := range []struct {
		d *pm.Device
		p ring.Plan
		e api.Errno
	}{{nil, ring.Plan{}, api.ErrNil}, {d, ring.Plan{}, api.ErrArg}, {d, ring.Plan{3, 4, 2, 1}, api.ErrRange}} {
		if r, e := ring.Open(x.d, x.p); r != nil || e != x.e {
			t.Errorf("%v: %v", x.p, e)
		}
	}
	for _, s := range []gap.State{{Start: 4, Gap: 4}, {Start: 0, Gap: 5}, {Start: 65535, Gap: 1}} {
		line.PutWord(d, 7, 0, s.Pack())
		if r, e := ring.Open(d, p); r != nil || e != api.ErrForm {
			t.Errorf("%v: %v", s, e)
		}
	}
	line.PutWord(d, 7, 0, gap.State{Start: 3, Gap: 0, Moves: 77}.Pack())
	if r := open(t, d, p); r.State() != (gap.State{Start: 3, Gap: 0, Moves: 77}) {
		t.Error(r.State())
	}
	line.PutWord(d, 1, 0, 1)
	if r, e := ring.Open(d, p); r != nil || e != api.ErrSum {
		t.Error(e)
	}
	d.Fuse(1)
	d.Fence()
	if r, e := ring.Open(d, p); r != nil || e != api.ErrPower {
		t.Error(e)
	}
	if r, e := ring.Open(d, ring.Plan{At: 1, Lines: 4, Psi: 1}); r != nil || e != api.ErrPower {
		t.Error(e)
	}
}

func TestErrorsP7_2_P7_3(t *testing.T) {
	d, r := made(t, ring.Plan{At: 0, Lines: 4, Spares: 2, Psi: 2})
	n := d.Count()
	for _, i := range []int{-1, 4, 5, math.MinInt, math.MaxInt} {
		if at, e := r.Where(i); at != 0 || e != api.ErrRange {
			t.Errorf("Where(%d): %v", i, e)
		}
		if s, e := r.Read(i); s != "" || e != api.ErrRange {
			t.Errorf("Read(%d): %v", i, e)
		}
		if r.Write(i, zeros) != api.ErrRange || r.Write(i, "") != api.ErrArg || r.WriteWord(i, 0, 1) != api.ErrRange || r.WriteWord(i, 8, 1) != api.ErrArg || r.WriteWord(i, -1, 1) != api.ErrArg {
			t.Errorf("writes of %d", i)
		}
	}
	if d.Count() != n || r.Since() != 0 {
		t.Error("an error changes something")
	}
	var none *ring.Ring
	if _, e := none.Where(-1); e != api.ErrNil {
		t.Error(e)
	}
	if _, e := none.Read(-1); e != api.ErrNil {
		t.Error(e)
	}
	if none.Write(0, "") != api.ErrNil || none.WriteWord(0, 9, 1) != api.ErrNil || none.State() != (gap.State{}) || none.Since() != 0 || none.Left() != 0 {
		t.Error("a nil region")
	}
}

func TestMovesP7_2_P7_3(t *testing.T) {
	p := ring.Plan{At: 0, Lines: 4, Spares: 2, Psi: 2}
	d, r := made(t, p)
	n := d.Count()
	if r.Write(3, text(1)) != api.OK || r.WriteWord(3, 0, 9) != api.OK || r.Since() != 2 || r.State().Moves != 0 || d.Count() != n+13 {
		t.Errorf("two writes: %d, %v", r.Since(), r.State())
	}
	n = d.Count()
	if r.Write(0, text(2)) != api.OK || r.Since() != 1 || d.Count() != n+23 {
		t.Errorf("the third write: %d, %d", r.Since(), d.Count()-n)
	}
	if r.State() != (gap.State{Start: 0, Gap: 3, Moves: 1}) || d.Media(8*6) != r.State().Pack() {
		t.Error(r.State())
	}
	if at, _ := r.Where(3); at != 5 {
		t.Errorf("line 3 is at %d", at)
	}
	reads(t, r, 3, le.Put(9, 8)+text(1)[8:])
	reads(t, r, 0, text(2))
	if r.Since() != 1 {
		t.Error("reads count not")
	}
	again := open(t, d, p)
	if again.State() != r.State() || again.Since() != 0 {
		t.Error("opened anew")
	}
	reads(t, again, 3, le.Put(9, 8)+text(1)[8:])
}

// TestSparesP7_3: the region wants to move, and can't.
func TestSparesP7_3(t *testing.T) {
	p := ring.Plan{At: 0, Lines: 2, Spares: 1, Psi: 1}
	d, r := made(t, p)
	r.Write(0, text(1))
	r.Write(1, text(2))
	if r.State().Moves != 1 {
		t.Fatal(r.State())
	}
	for i := range d.Lines() - 1 {
		d.Break(1 + i)
	}
	for i := range 2 {
		before := r.State()
		if e := r.Write(i, text(7)); e != api.ErrSpares || r.Since() != 1 || r.State() != before || r.Left() != 0 {
			t.Errorf("%v, %d, %v", e, r.Since(), r.State())
		}
		if e := r.WriteWord(i, 3, 7); e != api.ErrSpares {
			t.Error(e)
		}
	}
	reads(t, r, 0, text(1))
	reads(t, r, 1, text(2))
	again := open(t, d, p)
	reads(t, again, 0, text(1))
	reads(t, again, 1, text(2))
}

// TestMovedAndFailedP7_3: the region has moved, and then the write itself fails.
func TestMovedAndFailedP7_3(t *testing.T) {
	p := ring.Plan{At: 0, Lines: 3, Spares: 0, Psi: 1}
	d, r := made(t, p)
	r.Write(0, text(1))
	d.Break(0)
	if e := r.Write(0, text(2)); e != api.ErrSpares || r.Since() != 0 || r.State().Moves != 1 {
		t.Errorf("%v, %d, %v", e, r.Since(), r.State())
	}
	reads(t, r, 0, text(1))
}

// TestPowerP7_4 lets lines break and the power fail anywhere.
func TestPowerP7_4(t *testing.T) {
	x := rand.New(rand.NewPCG(7, 1))
	for round := range 300 {
		p := ring.Plan{At: x.IntN(2), Lines: 1 + x.IntN(5), Spares: x.IntN(12), Psi: 1 + x.IntN(3)}
		d, r := made(t, p)
		first := p.At + (p.Spares+7)/8
		now := make([]string, p.Lines)
		for i := range now {
			now[i] = zeros
		}
		for range 60 {
			if x.IntN(8) == 0 {
				d.Break(first + x.IntN(p.Lines+2+p.Spares))
			}
			if x.IntN(3) == 0 {
				d.Fuse(1 + x.IntN(50))
			}
			i, k, v := x.IntN(p.Lines), x.IntN(8), x.Uint64()
			was, is := now[i], text(v>>8)
			whole := x.IntN(2) == 0
			var e api.Errno
			if whole {
				e = r.Write(i, is)
			} else {
				is = was[:8*k] + le.Put(v, 8) + was[8*k+8:]
				e = r.WriteWord(i, k, v)
			}
			switch e {
			case api.OK:
				now[i] = is
			case api.ErrSpares:
				if r.Left() != 0 {
					t.Fatalf("round %d: spares are left", round)
				}
			case api.ErrPower:
				keep := make([]bool, 9)
				for j := range keep {
					keep[j] = x.IntN(2) == 0
				}
				d.Boot(keep)
				r = open(t, d, p)
				got, _ := r.Read(i)
				if whole && !line.Mixed(was, is, got) || !whole && got != was && got != is {
					t.Fatalf("round %d: %x was %x, is %x", round, got, was, is)
				}
				now[i] = got
			default:
				t.Fatal(e)
			}
			for j := range now {
				reads(t, r, j, now[j])
			}
		}
	}
}

func TestWearP7_5(t *testing.T) {
	for _, psi := range []int{1, 3} {
		for n := 1; n <= 5; n++ {
			p := ring.Plan{At: 0, Lines: n, Spares: 0, Psi: psi}
			d, r := made(t, p)
			wear := make([]int, n+1)
			for i := range wear {
				wear[i] = d.Wear(i)
			}
			home, _ := r.Where(0)
			stay := 0
			for w := range psi*n*(n+1) + 1 {
				if int(r.State().Moves) != max(w-1, 0)/psi || r.Since() != w-int(r.State().Moves)*psi {
					t.Fatalf("psi %d, write %d: %v, %d", psi, w, r.State(), r.Since())
				}
				moves := r.State().Moves
				at, _ := r.Where(0)
				if e := r.Write(0, text(uint64(w))); e != api.OK {
					t.Fatal(e)
				}
				now, _ := r.Where(0)
				wear[now]++ // the write itself, which is not a move's
				if stay++; now != at {
					stay = 1
				}
				if stay > (n+1)*psi {
					t.Fatalf("line 0 of %d stays at one slot for %d writes", n, stay)
				}
				if r.State().Moves > moves+1 {
					t.Fatal("two moves at once")
				}
				least, most := math.MaxInt, 0
				for i := range wear {
					least, most = min(least, d.Wear(i)-wear[i]), max(most, d.Wear(i)-wear[i])
				}
				if most-least > 1 || most == 0 && r.State().Moves > 0 {
					t.Fatalf("moves wear from %d to %d", least, most)
				}
			}
			if at, _ := r.Where(0); r.State().Moves != uint32(n*(n+1)) || at != home {
				t.Fatalf("after %d moves line 0 of %d is at %d", r.State().Moves, n, at)
			}
		}
	}
}

// TestMoveFailsP7_3: the lines could be written, but the region can't move.
func TestMoveFailsP7_3(t *testing.T) {
	p := ring.Plan{At: 0, Lines: 3, Spares: 0, Psi: 1}
	for _, bad := range []int{3, 4} { // the slot to which a line is moved, and the register
		d, r := made(t, p)
		r.Write(0, text(1))
		r.Write(1, text(2))
		d.Break(2)
		state := r.State()
		if state.Moves != 1 {
			t.Fatal(state)
		}
		if bad == 4 {
			d, r = made(t, p)
			r.Write(0, text(1))
			state = r.State()
			d.Break(4)
		}
		count := d.Count()
		for range 2 {
			if r.Write(0, text(7)) != api.ErrSpares || r.WriteWord(0, 0, 7) != api.ErrSpares || r.State() != state || r.Since() != 1 {
				t.Errorf("line %d is bad: %v, %d", bad, r.State(), r.Since())
			}
		}
		reads(t, r, 0, text(1))
		if d.Count() == count {
			t.Error("no move was tried")
		}
	}
}
