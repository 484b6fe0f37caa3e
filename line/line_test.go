package line_test

import (
	"math"
	"strings"
	"testing"

	"gabion/api"
	"gabion/le"
	"gabion/line"
	"gabion/pm"
)

func device(t *testing.T, lines int) *pm.Device {
	t.Helper()
	d, e := pm.New(lines)
	if e != api.OK {
		t.Fatal(e)
	}
	return d
}

// text is a line whose words tell their places.
func text(base uint64) string {
	var w [api.Words]uint64
	for k := range w {
		w[k] = base + uint64(k)
	}
	return le.Text(w)
}

var outside = []int{-1, 3, 1 << 60, 1 << 61, -1 << 61, math.MinInt, math.MaxInt}

func TestGetP4_1(t *testing.T) {
	d := device(t, 3)
	d.Store(9, 0x0102)
	if s, e := line.Get(d, 1); e != api.OK || s != strings.Repeat("\x00", 8)+"\x02\x01"+strings.Repeat("\x00", 54) {
		t.Errorf("a line as it is loaded: %x, %v", s, e)
	}
	for _, at := range outside {
		if s, e := line.Get(d, at); s != "" || e != api.ErrRange {
			t.Errorf("Get(%d): %v", at, e)
		}
	}
	if s, e := line.Get(nil, -1); s != "" || e != api.ErrNil {
		t.Error(e)
	}
	d.Fuse(1)
	d.Fence()
	for _, at := range []int{1, -1} {
		if s, e := line.Get(d, at); s != "" || e != api.ErrPower {
			t.Errorf("Get(%d) without power: %v", at, e)
		}
	}
}

func TestPutP4_1(t *testing.T) {
	d := device(t, 3)
	if e := line.Put(d, 1, text(100)); e != api.OK || d.Count() != 10 || len(d.Pending()) != 0 || d.Wear(1) != 1 {
		t.Errorf("%v, %d operations", e, d.Count())
	}
	for k := range 8 {
		if d.Media(8+k) != uint64(100+k) {
			t.Errorf("word %d", k)
		}
	}
	if s, e := line.Get(d, 1); s != text(100) || e != api.OK {
		t.Error("Get of Put")
	}
	if e := line.PutWord(d, 2, 7, 5); e != api.OK || d.Count() != 13 || d.Media(23) != 5 || d.Media(22) != 0 {
		t.Errorf("PutWord: %v", e)
	}
	if e := line.PutWord(d, 0, 0, 6); e != api.OK || d.Media(0) != 6 {
		t.Errorf("PutWord: %v", e)
	}
}

func TestPutErrorsP4_1(t *testing.T) {
	d := device(t, 3)
	for _, s := range []string{"", text(1)[1:], text(1) + "x"} {
		if line.Put(d, -1, s) != api.ErrArg || line.Put(nil, -1, s) != api.ErrNil {
			t.Errorf("Put of %d bytes", len(s))
		}
	}
	for _, k := range []int{-1, 8, math.MinInt, math.MaxInt} {
		if line.PutWord(d, -1, k, 1) != api.ErrArg || line.PutWord(nil, -1, k, 1) != api.ErrNil {
			t.Errorf("PutWord %d", k)
		}
	}
	for _, at := range outside {
		if line.Put(d, at, text(1)) != api.ErrRange || line.PutWord(d, at, 0, 1) != api.ErrRange {
			t.Errorf("line %d", at)
		}
	}
	if d.Count() != 0 || len(d.Pending()) != 0 {
		t.Error("an error changes something")
	}
	d.Fuse(1)
	d.Fence()
	if line.Put(d, 3, text(1)) != api.ErrRange || line.Put(d, 0, text(1)) != api.ErrPower || line.PutWord(d, 0, 1, 1) != api.ErrPower {
		t.Error("without power")
	}
}

func TestTookP4_2(t *testing.T) {
	d := device(t, 3)
	line.Put(d, 1, text(9))
	if !line.Took(d, 1, text(9)) || line.Took(d, 1, text(8)) || line.Took(d, 0, text(9)) {
		t.Error("Took")
	}
	for _, at := range outside {
		if line.Took(d, at, strings.Repeat("\x00", 64)) {
			t.Errorf("line %d", at)
		}
	}
	if line.Took(nil, 0, strings.Repeat("\x00", 64)) || line.Took(d, 2, "") || line.Took(d, 2, strings.Repeat("\x00", 63)) {
		t.Error("nothing, or too little")
	}
	d.Break(1)
	if !line.Took(d, 1, text(9)) {
		t.Error("a bad line keeps its bytes")
	}
	if line.Put(d, 1, text(20)) != api.OK || line.Took(d, 1, text(20)) || !line.Took(d, 1, text(9)) {
		t.Error("a bad line doesn't take others")
	}
	if line.Put(d, 1, text(9)) != api.OK || !line.Took(d, 1, text(9)) {
		t.Error("a bad line takes what it has")
	}
	d.Store(0, 5)
	if line.Took(d, 0, "\x05"+strings.Repeat("\x00", 63)) {
		t.Error("the buffer is not the medium")
	}
	for k := range 8 {
		s := []byte(text(9))
		s[8*k+3]++
		if line.Took(d, 1, string(s)) {
			t.Errorf("word %d differs", k)
		}
	}
}

func TestMixedP4_3(t *testing.T) {
	was, is := text(100), text(200)
	for set := range 256 {
		got := ""
		for k := range 8 {
			from := was
			if set>>k&1 == 1 {
				from = is
			}
			got += from[8*k : 8*k+8]
		}
		if !line.Mixed(was, is, got) {
			t.Fatalf("set %x", set)
		}
		for k := range 8 {
			b := []byte(got)
			b[8*k+7]++
			if line.Mixed(was, is, string(b)) {
				t.Fatalf("set %x with another word %d", set, k)
			}
		}
	}
	swapped := is[8:16] + is[:8] + is[16:]
	if line.Mixed(was, is, swapped) || line.Mixed(was, is, is[:63]) || line.Mixed(was[:63], is, is) || line.Mixed(was, is+"x", was) || line.Mixed("", "", "") {
		t.Error("places and lengths")
	}
}

// TestPowerP4_3 lets the power fail at each operation, and keeps each set of words.
func TestPowerP4_3(t *testing.T) {
	for n := 1; n <= 11; n++ {
		for set := range 256 {
			d := device(t, 1)
			line.Put(d, 0, text(100))
			d.Fuse(n)
			e := line.Put(d, 0, text(200))
			if (e == api.OK) != (n == 11) || e != api.OK && e != api.ErrPower {
				t.Fatalf("fuse %d: %v", n, e)
			}
			d.Boot(keep(set))
			got, _ := line.Get(d, 0)
			if !line.Mixed(text(100), text(200), got) || e == api.OK && got != text(200) {
				t.Fatalf("fuse %d, set %x: %x", n, set, got)
			}
		}
	}
	for n := 1; n <= 4; n++ {
		for set := range 2 {
			d := device(t, 1)
			line.Put(d, 0, text(100))
			d.Fuse(n)
			e := line.PutWord(d, 0, 3, 7)
			d.Boot(keep(set))
			got, _ := line.Get(d, 0)
			is := text(100)[:24] + le.Put(7, 8) + text(100)[32:]
			if got != is && got != text(100) || e == api.OK && got != is || (e == api.OK) != (n == 4) {
				t.Fatalf("fuse %d, set %x: %x, %v", n, set, got, e)
			}
		}
	}
}

func keep(set int) []bool {
	var l []bool
	for k := range 8 {
		l = append(l, set>>k&1 == 1)
	}
	return l
}
