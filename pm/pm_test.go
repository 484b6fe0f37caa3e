package pm_test

import (
	"math"
	"math/rand/v2"
	"slices"
	"testing"

	"gabion/api"
	"gabion/pm"
)

func device(t *testing.T, lines int) *pm.Device {
	t.Helper()
	d, e := pm.New(lines)
	if e != api.OK || d == nil {
		t.Fatalf("New(%d): %v", lines, e)
	}
	return d
}

func TestNewP3_1(t *testing.T) {
	for _, n := range []int{math.MinInt, -1, 0, api.MaxLines + 1, math.MaxInt} {
		if d, e := pm.New(n); d != nil || e != api.ErrArg {
			t.Errorf("New(%d): %v", n, e)
		}
	}
	for _, n := range []int{1, 2, api.MaxLines} {
		if d := device(t, n); d.Lines() != n || d.Media(8*n-1) != 0 || d.Count() != 0 || d.Off() || len(d.Pending()) != 0 {
			t.Errorf("New(%d)", n)
		}
	}
}

// load asks for a word that can be loaded.
func load(t *testing.T, d *pm.Device, word int, want uint64) {
	t.Helper()
	if v, e := d.Load(word); v != want || e != api.OK {
		t.Fatalf("Load(%d) = %d, %v, not %d", word, v, e, want)
	}
}

func ok(t *testing.T, l ...api.Errno) {
	t.Helper()
	for i, e := range l {
		if e != api.OK {
			t.Fatalf("%d: %v", i, e)
		}
	}
}

func TestOperationsP3_1(t *testing.T) {
	d := device(t, 3)
	ok(t, d.Store(8, 7), d.Store(9, 8), d.Store(16, 9))
	load(t, d, 8, 7)
	if d.Media(8) != 0 || !slices.Equal(d.Pending(), []int{8, 9, 16}) {
		t.Error("a store must not last")
	}
	ok(t, d.Fence())
	if d.Media(8) != 0 || len(d.Pending()) != 3 {
		t.Error("a fence must not persist what was not flushed")
	}
	ok(t, d.Flush(1))
	if d.Media(8) != 0 || len(d.Pending()) != 3 {
		t.Error("a flush must not persist")
	}
	ok(t, d.Store(9, 80), d.Fence())
	if d.Media(8) != 7 || d.Media(9) != 0 || !slices.Equal(d.Pending(), []int{9, 16}) {
		t.Error("a word stored after the flush is not flushed")
	}
	load(t, d, 9, 80)
	load(t, d, 8, 7)
	ok(t, d.Flush(1), d.Flush(0), d.Fence())
	if d.Media(9) != 80 || d.Media(16) != 0 || !slices.Equal(d.Pending(), []int{16}) {
		t.Error("the second fence")
	}
	if d.Count() != 10 {
		t.Errorf("Count %d", d.Count())
	}
}

func TestOrderOfErrorsP3_1(t *testing.T) {
	d := device(t, 2)
	for _, word := range []int{-1, 16, math.MinInt, math.MaxInt} {
		if v, e := d.Load(word); v != 0 || e != api.ErrRange {
			t.Errorf("Load(%d): %d, %v", word, v, e)
		}
		if e := d.Store(word, 1); e != api.ErrRange {
			t.Errorf("Store(%d): %v", word, e)
		}
	}
	for _, line := range []int{-1, 2, 1 << 61, math.MinInt, math.MaxInt} {
		if e := d.Flush(line); e != api.ErrRange {
			t.Errorf("Flush(%d): %v", line, e)
		}
	}
	ok(t, d.Store(15, 5))
	d.Fuse(1)
	load(t, d, 15, 5)
	if e := d.Store(16, 1); e != api.ErrRange || d.Off() {
		t.Errorf("a store outside must not burn the fuse: %v", e)
	}
	if e := d.Store(0, 1); e != api.ErrPower || !d.Off() {
		t.Errorf("the fuse: %v", e)
	}
	if v, e := d.Load(15); v != 0 || e != api.ErrPower {
		t.Errorf("Load without power: %d, %v", v, e)
	}
	for _, e := range []api.Errno{d.Store(99, 1), d.Store(0, 1), d.Flush(-1), d.Flush(0), d.Fence()} {
		if e != api.ErrPower {
			t.Errorf("without power: %v", e)
		}
	}
	if _, e := d.Load(99); e != api.ErrPower {
		t.Errorf("Load outside without power: %v", e)
	}
	if d.Count() != 1 || !slices.Equal(d.Pending(), []int{15}) {
		t.Errorf("Count %d, Pending %v", d.Count(), d.Pending())
	}
}

func TestNilP3_1(t *testing.T) {
	var d *pm.Device
	if v, e := d.Load(0); v != 0 || e != api.ErrNil {
		t.Error("Load")
	}
	for _, e := range []api.Errno{d.Store(0, 1), d.Store(-1, 1), d.Flush(0), d.Fence()} {
		if e != api.ErrNil {
			t.Error(e)
		}
	}
	d.Fuse(1)
	d.Boot([]bool{true})
	d.Break(0)
	if d.Lines() != 0 || d.Media(0) != 0 || len(d.Pending()) != 0 || d.Wear(0) != 0 || d.Bad(0) || d.Off() || d.Count() != 0 {
		t.Error("a nil device has something")
	}
}

func TestFuseP3_2(t *testing.T) {
	for n := 1; n <= 6; n++ {
		d := device(t, 1)
		ok(t, d.Fence())
		d.Fuse(99)
		d.Fuse(n)
		for k := 1; k < n; k++ {
			if e := d.Store(k%8, 1); e != api.OK || d.Off() {
				t.Fatalf("fuse %d, operation %d: %v", n, k, e)
			}
		}
		if e := d.Flush(0); e != api.ErrPower || !d.Off() || d.Count() != n {
			t.Fatalf("fuse %d: %v, %d", n, e, d.Count())
		}
		d.Boot(nil)
		if e := d.Fence(); e != api.OK || d.Off() {
			t.Fatalf("after the boot: %v", e)
		}
	}
	for _, n := range []int{0, -1, math.MinInt} {
		d := device(t, 1)
		d.Fuse(2)
		d.Fuse(n)
		ok(t, d.Fence(), d.Fence(), d.Fence())
	}
	d := device(t, 1)
	d.Fuse(2)
	d.Boot(nil)
	ok(t, d.Fence(), d.Fence(), d.Fence())
	d.Fuse(math.MaxInt)
	ok(t, d.Fence(), d.Fence())
	d.Fuse(1)
	if d.Fence() != api.ErrPower {
		t.Error("a fuse of 1")
	}
	d.Fuse(1)
	d.Boot(nil)
	ok(t, d.Fence(), d.Fence())
}

func TestBootP3_2(t *testing.T) {
	fill := func() *pm.Device {
		d := device(t, 4)
		ok(t, d.Store(25, 3), d.Store(0, 1), d.Store(9, 2), d.Flush(1))
		return d
	}
	for _, x := range []struct {
		keep    []bool
		a, b, c uint64
	}{
		{nil, 0, 0, 0}, {[]bool{true}, 1, 0, 0}, {[]bool{false, true}, 0, 2, 0}, {[]bool{false, false, true, true, true}, 0, 0, 3},
		{[]bool{true, true, true}, 1, 2, 3}, {[]bool{true, false, true}, 1, 0, 3},
	} {
		d := fill()
		count := d.Count()
		d.Boot(x.keep)
		load(t, d, 0, x.a)
		load(t, d, 9, x.b)
		load(t, d, 25, x.c)
		if len(d.Pending()) != 0 || d.Count() != count || d.Media(25) != x.c {
			t.Errorf("%v: %v, %d", x.keep, d.Pending(), d.Count())
		}
		if d.Wear(0) != int(x.a) || d.Wear(1) != int(x.b/2) || d.Wear(3) != int(x.c/3) || d.Wear(2) != 0 {
			t.Errorf("%v: wear", x.keep)
		}
	}
}

func TestExampleP3_2(t *testing.T) {
	d := device(t, 1)
	ok(t, d.Store(0, 7), d.Flush(0))
	d.Boot(nil)
	load(t, d, 0, 0)
	ok(t, d.Store(0, 7), d.Flush(0), d.Fence())
	d.Boot(nil)
	load(t, d, 0, 7)
}

func TestWearP3_3(t *testing.T) {
	d := device(t, 3)
	ok(t, d.Store(8, 1), d.Store(9, 1), d.Store(15, 1), d.Store(0, 1), d.Flush(1), d.Fence())
	if d.Wear(0) != 0 || d.Wear(1) != 1 || d.Wear(2) != 0 {
		t.Error("a fence counts once for each line that it persists")
	}
	ok(t, d.Fence())
	if d.Wear(1) != 1 {
		t.Error("a fence without words counts not")
	}
	d.Break(1)
	ok(t, d.Store(8, 2), d.Flush(1), d.Fence())
	if d.Wear(1) != 2 || d.Media(8) != 1 {
		t.Error("a bad line wears on, and keeps its words")
	}
	load(t, d, 8, 1)
	ok(t, d.Store(9, 7), d.Store(8, 7))
	load(t, d, 9, 7)
	d.Boot([]bool{true, true, true})
	if d.Wear(0) != 1 || d.Wear(1) != 3 || d.Media(9) != 1 || d.Media(0) != 1 {
		t.Error("a boot counts once")
	}
}

func TestBreakP3_3(t *testing.T) {
	d := device(t, 3)
	for _, line := range []int{-1, 3, math.MinInt, math.MaxInt} {
		d.Break(line)
		if d.Bad(line) || d.Wear(line) != 0 {
			t.Errorf("line %d", line)
		}
	}
	for _, word := range []int{-1, 24, math.MinInt, math.MaxInt} {
		if d.Media(word) != 0 {
			t.Errorf("word %d", word)
		}
	}
	ok(t, d.Store(16, 4), d.Flush(2), d.Fence())
	if d.Bad(2) {
		t.Error("bad at the beginning")
	}
	d.Break(2)
	d.Break(2)
	d.Boot(nil)
	if !d.Bad(2) || d.Bad(1) || d.Media(16) != 4 {
		t.Error("Break")
	}
}

// plain is the device again, slowly.
type plain struct {
	medium, value    [32]uint64
	pending, flushed [32]bool
	bad              [4]bool
	wear             [4]int
}

func (p *plain) persist(chosen func(w int) bool) {
	var worn [4]bool
	for w := range 32 {
		if p.pending[w] && chosen(w) {
			p.pending[w] = false
			worn[w/8] = true
			if !p.bad[w/8] {
				p.medium[w] = p.value[w]
			}
		}
	}
	for i, x := range worn {
		if x {
			p.wear[i]++
		}
	}
}

func TestAgainstPlain(t *testing.T) {
	r := rand.New(rand.NewPCG(5, 1))
	for range 30 {
		d, p := device(t, 4), &plain{}
		for range 400 {
			w, v := r.IntN(32), r.Uint64()
			switch r.IntN(12) {
			default:
				ok(t, d.Store(w, v))
				p.value[w], p.pending[w], p.flushed[w] = v, true, false
			case 0, 1, 2:
				ok(t, d.Flush(w/8))
				for k := w / 8 * 8; k < w/8*8+8; k++ {
					p.flushed[k] = true
				}
			case 3, 4:
				ok(t, d.Fence())
				p.persist(func(w int) bool { return p.flushed[w] })
			case 5:
				if r.IntN(40) == 0 {
					d.Break(w / 8)
					p.bad[w/8] = true
				}
			case 6:
				keep := make([]bool, r.IntN(20))
				for i := range keep {
					keep[i] = r.IntN(2) == 0
				}
				d.Boot(keep)
				k := -1
				p.persist(func(int) bool {
					k++
					return k < len(keep) && keep[k]
				})
				p.pending = [32]bool{}
			}
			var pending []int
			for w := range 32 {
				want := p.medium[w]
				if d.Media(w) != want {
					t.Fatalf("the medium's word %d", w)
				}
				if p.pending[w] {
					want = p.value[w]
					pending = append(pending, w)
				}
				load(t, d, w, want)
				if d.Wear(w/8) != p.wear[w/8] || d.Bad(w/8) != p.bad[w/8] {
					t.Fatalf("line %d", w/8)
				}
			}
			if !slices.Equal(d.Pending(), pending) {
				t.Fatalf("pending: %v, not %v", d.Pending(), pending)
			}
		}
	}
}

func TestNewMemory(t *testing.T) {
	d, other := device(t, 1), device(t, 1)
	ok(t, d.Store(3, 1), d.Store(2, 1))
	l := d.Pending()
	l[0] = 7
	if !slices.Equal(d.Pending(), []int{2, 3}) || len(other.Pending()) != 0 {
		t.Error("Pending is shared")
	}
}
