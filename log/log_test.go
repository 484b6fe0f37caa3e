package log_test

import (
	"fmt"
	"math"
	"math/rand/v2"
	"slices"
	"strings"
	"testing"

	"gabion/api"
	"gabion/crc"
	"gabion/flat"
	"gabion/hot"
	"gabion/log"
	"gabion/pm"
	"gabion/rec"
	"gabion/space"
)

const top = math.MaxUint32

// config gives 13 pages, which hardly move.
func config() flat.Config {
	return flat.Config{Regions: 2, Lines: 64, Spares: 3, Psi: 200, Key: 5}
}

func open(t *testing.T, d *pm.Device) *space.Space {
	t.Helper()
	p, e := hot.Open(d, 500)
	if e != api.OK {
		t.Fatal(e)
	}
	s, e := space.New(p)
	if e != api.OK {
		t.Fatal(e)
	}
	return s
}

func made(t *testing.T, c flat.Config) (*pm.Device, *space.Space) {
	t.Helper()
	d, e := pm.New(c.Size())
	if e != api.OK {
		t.Fatal(e)
	}
	if e := hot.Make(d, c); e != api.OK {
		t.Fatal(e)
	}
	return d, open(t, d)
}

// begun is a log that was formatted and opened.
func begun(t *testing.T, p log.Plan) (*pm.Device, *space.Space, *log.Log) {
	t.Helper()
	d, s := made(t, config())
	if e := log.Format(s, p); e != api.OK {
		t.Fatalf("Format: %v", e)
	}
	l, got, e := log.Open(s, p)
	if e != api.OK || l == nil || len(got) != 0 {
		t.Fatalf("Open: %v, %v", got, e)
	}
	return d, s, l
}

// holds opens the log again, and looks at what is committed.
func holds(t *testing.T, s *space.Space, p log.Plan, want ...rec.Record) *log.Log {
	t.Helper()
	l, got, e := log.Open(s, p)
	if e != api.OK || !slices.Equal(got, want) {
		t.Fatalf("%v, %v, not %v", got, e, want)
	}
	return l
}

func r(kind int, body string) rec.Record {
	return rec.Record{Kind: uint8(kind), Body: body}
}

func TestPlanP13_1(t *testing.T) {
	big := 1<<32 - 64
	for _, x := range []struct {
		p    log.Plan
		size int
		e    api.Errno
		need int
	}{
		{log.Plan{0, 64}, 192, api.OK, 192}, {log.Plan{0, 64}, 191, api.ErrRange, 192}, {log.Plan{64, 128}, 384, api.OK, 320}, {log.Plan{64, 128}, 383, api.ErrRange, 320},
		{log.Plan{-64, 64}, 999, api.ErrArg, 0}, {log.Plan{0, 0}, 999, api.ErrArg, 0}, {log.Plan{0, 32}, 999, api.ErrArg, 0}, {log.Plan{0, 65}, 999, api.ErrArg, 0},
		{log.Plan{8, 64}, 999, api.ErrArg, 0}, {log.Plan{0, -64}, 999, api.ErrArg, 0}, {log.Plan{big, big}, math.MaxInt, api.OK, 64 + 2*big}, {log.Plan{big, big}, 99, api.ErrRange, 64 + 2*big},
		{log.Plan{1 << 32, 64}, math.MaxInt, api.ErrArg, 0}, {log.Plan{0, 1 << 32}, math.MaxInt, api.ErrArg, 0}, {log.Plan{math.MinInt, math.MinInt}, 1, api.ErrArg, 0},
		{log.Plan{0, 64}, math.MinInt, api.ErrRange, 192},
	} {
		if e := x.p.Check(x.size); e != x.e || x.p.Size() != x.need {
			t.Errorf("%v: %v, %d", x.p, e, x.p.Size())
		}
	}
}

func TestNeedP13_1(t *testing.T) {
	for i, x := range []struct {
		l    []rec.Record
		want int
	}{
		{nil, 0}, {[]rec.Record{}, 0}, {[]rec.Record{r(1, "")}, 64}, {[]rec.Record{r(1, "a"), r(254, "12345678")}, 32 + 40 + 48},
		{[]rec.Record{r(0, "")}, 0}, {[]rec.Record{r(1, ""), r(255, "")}, 0}, {[]rec.Record{r(255, "x"), r(1, "")}, 0}, {[]rec.Record{r(1, strings.Repeat("x", 1025))}, 0},
	} {
		if got := log.Need(x.l); got != x.want {
			t.Errorf("%d: %d", i, got)
		}
	}
}

func TestFormatP13_2(t *testing.T) {
	p := log.Plan{At: 128, Half: 192}
	_, s := made(t, config())
	if log.Format(nil, log.Plan{}) != api.ErrNil || log.Format(s, log.Plan{}) != api.ErrArg || log.Format(s, log.Plan{At: 0, Half: 64 * 100}) != api.ErrRange {
		t.Error("errors of Format")
	}
	s.Write(0, strings.Repeat("x", 1000))
	if e := log.Format(s, p); e != api.OK {
		t.Fatal(e)
	}
	if w, _ := s.Word(128); w != crc.Guard(1) {
		t.Errorf("the epoch: %x", w)
	}
	if w, _ := s.Word(136); w != crc.Guard(0) {
		t.Errorf("the life: %x", w)
	}
	want := strings.Repeat("x", 48) + strings.Repeat("\x00", 384) + strings.Repeat("x", 424)
	if b, _ := s.Read(144, 856); b != want {
		t.Errorf("%x", b)
	}
	if b, _ := s.Read(0, 128); b != strings.Repeat("x", 128) {
		t.Error("bytes ahead of the log")
	}
}

func TestOpenP13_2(t *testing.T) {
	p := log.Plan{At: 64, Half: 128}
	d, s, l := begun(t, p)
	if l.Epoch() != 1 || l.Life() != 1 || l.Free() != 96 {
		t.Errorf("%d, %d, %d", l.Epoch(), l.Life(), l.Free())
	}
	l = holds(t, s, p)
	if w, _ := s.Word(72); l.Life() != 2 || w != crc.Guard(2) {
		t.Errorf("life %d, %x", l.Life(), w)
	}
	for _, x := range []struct {
		s *space.Space
		p log.Plan
		e api.Errno
	}{{nil, log.Plan{}, api.ErrNil}, {s, log.Plan{}, api.ErrArg}, {s, log.Plan{At: 64 * 102, Half: 64}, api.ErrRange}} {
		if l, got, e := log.Open(x.s, x.p); l != nil || got != nil || e != x.e {
			t.Errorf("%v: %v", x.p, e)
		}
	}
	for _, x := range []struct {
		at   int
		w    uint64
		want api.Errno
	}{
		{64, 0, api.ErrForm}, {72, 0, api.ErrForm}, {64, crc.Guard(top + 1), api.ErrForm}, {72, crc.Guard(top + 1), api.ErrForm}, {72, crc.Guard(top), api.ErrFull},
		{72, crc.Guard(top - 1), api.OK}, {64, crc.Guard(1) ^ 1, api.ErrForm}, {64, crc.Guard(top), api.OK}, {64, crc.Guard(0), api.OK},
	} {
		s.WriteWord(64, crc.Guard(1))
		s.WriteWord(72, crc.Guard(1))
		s.WriteWord(x.at, x.w)
		l, got, e := log.Open(s, p)
		if e != x.want || len(got) != 0 || (l == nil) != (e != api.OK) {
			t.Errorf("%x at %d: %v", x.w, x.at, e)
		}
		if w, _ := s.Word(x.at); e != api.OK && w != x.w {
			t.Error("an error changes the head")
		}
	}
	d.Fuse(1)
	if l, _, e := log.Open(s, p); l != nil || e != api.ErrPower {
		t.Error(e)
	}
	if l, _, e := log.Open(s, p); l != nil || e != api.ErrPower {
		t.Error(e)
	}
}

func TestNilP13_3(t *testing.T) {
	var l *log.Log
	if l.Epoch() != 0 || l.Life() != 0 || l.Free() != 0 || l.Append() != api.ErrNil || l.Renew(r(0, "")) != api.ErrNil {
		t.Error("a nil log")
	}
}

func TestAppendP13_3_P13_4(t *testing.T) {
	p := log.Plan{At: 0, Half: 256}
	d, s, l := begun(t, p)
	n := d.Count()
	for _, list := range [][]rec.Record{nil, {r(0, "")}, {r(1, ""), r(255, "")}, {r(1, strings.Repeat("x", 1025))}} {
		if l.Append(list...) != api.ErrArg || l.Renew(list...) != api.ErrArg {
			t.Errorf("%v", list)
		}
	}
	if l.Append(r(1, strings.Repeat("x", 190))) != api.ErrFull || l.Renew(r(1, strings.Repeat("x", 190))) != api.ErrFull || d.Count() != n {
		t.Error("too much")
	}
	if e := l.Append(r(7, "abc"), r(8, "")); e != api.OK || l.Free() != 256-104-32 {
		t.Errorf("%v, %d", e, l.Free())
	}
	if e := l.Append(r(9, "0123456789")); e != api.OK || l.Free() != 256-104-80-32 {
		t.Errorf("%v, %d", e, l.Free())
	}
	want := ""
	for i, x := range []rec.Record{r(7, "abc"), r(8, ""), r(255, ""), r(9, "0123456789"), r(255, "")} {
		b, _ := rec.Encode(rec.Stamp{Epoch: 1, Life: 1, Seq: uint32(i)}, x)
		want += b
	}
	if b, _ := s.Read(64+256, len(want)); b != want {
		t.Errorf("the bytes of epoch 1 are %x", b)
	}
	if e := l.Append(r(1, "12345678")); e != api.ErrFull {
		t.Errorf("%v, %d", e, l.Free())
	}
	if e := l.Append(r(1, "1234567")); e != api.OK || l.Free() != 0 {
		t.Errorf("exactly as much as there is: %v, %d", e, l.Free())
	}
	if e := l.Append(r(1, "")); e != api.ErrFull {
		t.Error(e)
	}
	all := []rec.Record{r(7, "abc"), r(8, ""), r(9, "0123456789"), r(1, "1234567")}
	l = holds(t, s, p, all...)
	if l.Free() != 0 || l.Epoch() != 1 || l.Life() != 2 {
		t.Errorf("%d, %d, %d", l.Free(), l.Epoch(), l.Life())
	}
}

func TestRenewP13_4(t *testing.T) {
	p := log.Plan{At: 64, Half: 256}
	_, s, l := begun(t, p)
	l.Append(r(1, "old"))
	if e := l.Renew(r(2, "new"), r(3, "")); e != api.OK || l.Epoch() != 2 || l.Free() != 256-104-32 {
		t.Errorf("%v, %d, %d", e, l.Epoch(), l.Free())
	}
	want := ""
	for i, x := range []rec.Record{r(2, "new"), r(3, ""), r(255, "")} {
		b, _ := rec.Encode(rec.Stamp{Epoch: 2, Life: 1, Seq: uint32(i)}, x)
		want += b
	}
	if b, _ := s.Read(128, len(want)); b != want {
		t.Errorf("the bytes of epoch 2 are %x", b)
	}
	if w, _ := s.Word(64); w != crc.Guard(2) {
		t.Errorf("the epoch is %x", w)
	}
	l = holds(t, s, p, r(2, "new"), r(3, ""))
	if e := l.Append(r(4, "more")); e != api.OK {
		t.Error(e)
	}
	l = holds(t, s, p, r(2, "new"), r(3, ""), r(4, "more"))
	// 216 bytes are exactly the half, with the end marker.
	exact := r(5, strings.Repeat("x", 7*24))
	if log.Need([]rec.Record{exact}) != 256 || l.Renew(exact) != api.OK || l.Epoch() != 3 || l.Free() != 0 {
		t.Errorf("%d, %d", l.Epoch(), l.Free())
	}
	l = holds(t, s, p, exact)
	if l.Renew(r(5, strings.Repeat("x", 7*24+1))) != api.ErrFull || l.Renew(r(6, "")) != api.OK {
		t.Error("Renew")
	}
	s.WriteWord(64, crc.Guard(top))
	l, _, e := log.Open(s, p)
	if e != api.OK || l.Renew(r(1, "")) != api.ErrFull || l.Append(r(1, "")) != api.OK {
		t.Errorf("the last epoch: %v", e)
	}
}

func TestStateP13_4(t *testing.T) {
	p := log.Plan{At: 0, Half: 256}
	for _, renew := range []bool{false, true} {
		for n := 1; ; n++ {
			d, s, l := begun(t, p)
			l.Append(r(1, "a"))
			d.Fuse(n)
			change := l.Append
			if renew {
				change = l.Renew
			}
			e := change(r(2, "b"))
			if e == api.OK {
				break
			}
			if e != api.ErrPower {
				t.Fatal(e)
			}
			d.Boot(nil)
			if l.Append() != api.ErrState || l.Append(r(3, "c")) != api.ErrState || l.Renew(r(3, "c")) != api.ErrState {
				t.Fatal("an error of layer 11 must end the log")
			}
			holds(t, s, p, r(1, "a"))
		}
	}
}

// craft lays records by hand in the half of epoch 1.
func craft(t *testing.T, s *space.Space, p log.Plan, l ...any) {
	t.Helper()
	log.Format(s, p)
	s.WriteWord(p.At+8, crc.Guard(4))
	b := ""
	for i := 0; i < len(l); i += 2 {
		x, e := rec.Encode(l[i].(rec.Stamp), l[i+1].(rec.Record))
		if e != api.OK {
			t.Fatal(e)
		}
		b += x
	}
	s.Write(p.At+64+p.Half, b)
}

func TestCommittedP13_2(t *testing.T) {
	p := log.Plan{At: 0, Half: 512}
	_, s := made(t, config())
	st := func(epoch, life, seq uint32) rec.Stamp {
		return rec.Stamp{Epoch: epoch, Life: life, Seq: seq}
	}
	a, b, end := r(1, "a"), r(2, "b"), r(255, "")
	for i, x := range []struct {
		l    []any
		want []rec.Record
	}{
		{[]any{st(1, 2, 0), a, st(1, 2, 1), end}, []rec.Record{a}},
		{[]any{st(1, 2, 0), a, st(1, 2, 1), b}, nil},
		{[]any{st(1, 2, 0), a, st(1, 2, 1), end, st(1, 3, 2), b}, []rec.Record{a}},
		{[]any{st(1, 2, 0), a, st(1, 2, 1), end, st(1, 3, 2), b, st(1, 3, 3), end}, []rec.Record{a, b}},
		{[]any{st(1, 3, 0), a, st(1, 3, 1), end, st(1, 2, 2), b, st(1, 2, 3), end}, []rec.Record{a}},
		{[]any{st(1, 2, 0), a, st(1, 2, 1), end, st(1, 2, 3), b, st(1, 2, 4), end}, []rec.Record{a}},
		{[]any{st(1, 2, 0), a, st(1, 2, 1), end, st(2, 2, 2), b, st(2, 2, 3), end}, []rec.Record{a}},
		{[]any{st(1, 2, 0), a, st(1, 6, 1), end}, nil},
		{[]any{st(1, 6, 0), a, st(1, 6, 1), end}, nil},
		{[]any{st(1, 2, 1), a, st(1, 2, 2), end}, nil},
		{[]any{st(3, 2, 0), a, st(3, 2, 1), end}, nil},
		{[]any{st(1, 0, 0), end, st(1, 4, 1), a, st(1, 4, 2), end}, []rec.Record{a}},
	} {
		craft(t, s, p, x.l...)
		l := holds(t, s, p, x.want...)
		// What comes next must be committed, too.
		if e := l.Append(r(9, "next")); e != api.OK {
			t.Fatal(e)
		}
		holds(t, s, p, append(slices.Clone(x.want), r(9, "next"))...)
		if l.Life() != 5 {
			t.Errorf("%d: life %d", i, l.Life())
		}
	}
}

// TestPowerP13_5 lets the power fail at any operation of random work, and keeps random words.
func TestPowerP13_5(t *testing.T) {
	x := rand.New(rand.NewPCG(13, 1))
	p := log.Plan{At: 64, Half: 512}
	for range 60 {
		c := config()
		c.Spares, c.Psi = 10, 1+x.IntN(5)
		d, s := made(t, c)
		if e := log.Format(s, p); e != api.OK {
			t.Fatal(e)
		}
		l := holds(t, s, p)
		var now []rec.Record
		for step := range 40 {
			var list []rec.Record
			for i := range 1 + x.IntN(3) {
				list = append(list, r(1+x.IntN(254), fmt.Sprintf("%d.%d%s", step, i, strings.Repeat("x", x.IntN(20)))))
			}
			if x.IntN(2) == 0 {
				d.Fuse(1 + x.IntN(120))
			}
			if x.IntN(20) == 0 {
				d.Break(1 + 2 + x.IntN(60))
			}
			next := append(slices.Clone(now), list...)
			e := l.Append(list...)
			if e == api.ErrFull {
				next = list
				e = l.Renew(list...)
			}
			switch e {
			case api.OK:
				now = next
				if x.IntN(4) == 0 {
					d.Fuse(0)
					l = holds(t, s, p, now...)
				}
			case api.ErrPower:
				var got []rec.Record
				for again := true; again; {
					keep := make([]bool, 12)
					for j := range keep {
						keep[j] = x.IntN(2) == 0
					}
					d.Boot(keep)
					s = open(t, d)
					if x.IntN(3) == 0 {
						d.Fuse(1 + x.IntN(3))
					}
					l, got, e = log.Open(s, p)
					again = e == api.ErrPower
				}
				if e != api.OK || !slices.Equal(got, now) && !slices.Equal(got, next) {
					t.Fatalf("%v, %v, not %v or %v", got, e, now, next)
				}
				now = got
			default:
				t.Fatal(e)
			}
		}
	}
}

func TestFormatFailsP13_2(t *testing.T) {
	p := log.Plan{At: 0, Half: 64}
	for n := 1; ; n++ {
		d, s := made(t, config())
		d.Fuse(n)
		e := log.Format(s, p)
		if !d.Off() {
			if e != api.OK || n != 27 {
				t.Errorf("two lines and two words: %v, %d operations", e, n-1)
			}
			break
		}
		if e != api.ErrPower {
			t.Fatalf("fuse %d: %v", n, e)
		}
	}
}
