package file_test

import (
	"fmt"
	"math"
	"math/rand/v2"
	"slices"
	"strings"
	"testing"

	"gabion/alloc"
	"gabion/api"
	"gabion/ext"
	"gabion/file"
	"gabion/flat"
	"gabion/hot"
	"gabion/inode"
	"gabion/pm"
	"gabion/space"
	"gabion/store"
	"gabion/tree"
)

const (
	half = 1024
	most = 65536 * 64
)

func config() flat.Config {
	return flat.Config{Regions: 2, Lines: 128, Spares: 2, Psi: 1000, Key: 1}
}

func open(t *testing.T, d *pm.Device) *space.Space {
	t.Helper()
	p, e := hot.Open(d, 900)
	if e != api.OK {
		t.Fatal(e)
	}
	s, e := space.New(p)
	if e != api.OK {
		t.Fatal(e)
	}
	return s
}

func mount(t *testing.T, s *space.Space) *store.Store {
	t.Helper()
	m, e := store.Mount(s, half)
	if e != api.OK {
		t.Fatal(e)
	}
	return m
}

// made has an empty file (2), a directory (3) and a link (4).
func made(t *testing.T, c flat.Config) (*pm.Device, *space.Space, *store.Store) {
	t.Helper()
	d, e := pm.New(c.Size())
	if e != api.OK {
		t.Fatal(e)
	}
	hot.Make(d, c)
	s := open(t, d)
	if e := store.Format(s, half); e != api.OK {
		t.Fatal(e)
	}
	m := mount(t, s)
	for i, x := range []inode.Inode{{Kind: inode.File}, {Kind: inode.Dir}, {Kind: inode.Link, Size: 1, Target: "f"}, {Kind: inode.File}} {
		m.Do(func(t *tree.Tree) api.Errno {
			_, e := t.Make(1, string(rune('f'+i)), x)
			return e
		})
	}
	return d, s, m
}

func is(t *testing.T, what string, got, want api.Errno) {
	t.Helper()
	if got != want {
		t.Errorf("%s: %v, not %v", what, got, want)
	}
}

// does performs a job of so many steps.
func does(t *testing.T, steps int, j *file.Job, e api.Errno) {
	t.Helper()
	if e != api.OK || j == nil {
		t.Fatal(e)
	}
	for left := steps; left > 0; left-- {
		if j.Left() != left {
			t.Fatalf("%d steps are left, not %d", j.Left(), left)
		}
		done, e := j.Step()
		if done != (left == 1) || e != api.OK {
			t.Fatalf("%v, %v with %d steps left", done, e, left)
		}
	}
	if done, e := j.Step(); done || e != api.ErrState || j.Left() != 0 {
		t.Fatal("a step behind the last one", e)
	}
}

func reads(t *testing.T, s *store.Store, n int, want string) {
	t.Helper()
	got, e := file.Read(s, n, 0, math.MaxInt)
	if got != want || e != api.OK {
		t.Fatalf("%q, %v, not %q", got, e, want)
	}
	if x, _ := s.Tree().Inode(n); x.Size != len(want) {
		t.Fatalf("Size %d, not %d", x.Size, len(want))
	}
}

func runs(t *testing.T, s *store.Store, n int, want ...alloc.Extent) {
	t.Helper()
	if x, _ := s.Tree().Inode(n); !slices.Equal(x.Blocks, want) {
		t.Errorf("%v, not %v", x.Blocks, want)
	}
}

func run(at, n int) alloc.Extent { return alloc.Extent{At: at, Len: n} }

func nul(n int) string { return strings.Repeat("\x00", n) }

func TestReadP22_1(t *testing.T) {
	_, _, s := made(t, config())
	text := strings.Repeat("0123456789", 20)
	j, e := file.Write(s, 2, 0, text)
	does(t, 5, j, e)
	for _, x := range []struct {
		at, k int
		want  string
	}{{0, 200, text}, {0, 0, ""}, {0, 1, "0"}, {199, 1, "9"}, {199, 2, "9"}, {200, 5, ""}, {201, 5, ""}, {60, 10, text[60:70]}, {64, 64, text[64:128]}, {63, 130, text[63:193]}, {math.MaxInt, math.MaxInt, ""}, {100, math.MaxInt, text[100:]}, {0, math.MaxInt, text}} {
		if got, e := file.Read(s, 2, x.at, x.k); got != x.want || e != api.OK {
			t.Errorf("Read(%d, %d): %q, %v", x.at, x.k, got, e)
		}
	}
	for _, x := range []struct {
		n, at, k int
		want     api.Errno
	}{
		{99, -1, -1, api.ErrNone}, {0, 0, 0, api.ErrNone}, {math.MinInt, 0, 0, api.ErrNone}, {3, -1, -1, api.ErrIsDir}, {1, 0, 1, api.ErrIsDir}, {4, 0, 1, api.ErrInval},
		{2, -1, 5, api.ErrInval}, {2, 5, -1, api.ErrInval}, {2, math.MinInt, math.MinInt, api.ErrInval}, {2, 999, -1, api.ErrInval},
	} {
		got, e := file.Read(s, x.n, x.at, x.k)
		is(t, fmt.Sprint(x), e, x.want)
		if got != "" {
			t.Error("bytes beside an error")
		}
	}
	_, e = file.Read(nil, 99, -1, -1)
	is(t, "a nil store", e, api.ErrNil)
}

func TestErrorsP22_2(t *testing.T) {
	d, _, s := made(t, config())
	count := d.Count()
	for _, x := range []struct {
		n, at int
		b     string
		want  api.Errno
	}{
		{99, -1, "", api.ErrNone}, {3, -1, "", api.ErrIsDir}, {4, -1, "", api.ErrInval}, {4, most + 1, "", api.ErrInval}, {2, -1, "", api.ErrInval}, {2, math.MinInt, "a", api.ErrInval}, {2, most, "a", api.ErrLong}, {2, most + 1, "", api.ErrLong},
		{2, math.MaxInt, "abc", api.ErrLong}, {2, most - 1, "ab", api.ErrLong}, {2, 0, strings.Repeat("x", 20000), api.ErrSpace},
	} {
		j, e := file.Write(s, x.n, x.at, x.b)
		is(t, fmt.Sprint(x.n, x.at, len(x.b)), e, x.want)
		if j != nil {
			t.Error("a job beside an error")
		}
	}
	for _, x := range []struct {
		n, size int
		want    api.Errno
	}{{99, -1, api.ErrNone}, {3, -1, api.ErrIsDir}, {4, most + 1, api.ErrInval}, {2, -1, api.ErrInval}, {2, math.MinInt, api.ErrInval}, {2, most + 1, api.ErrLong}, {2, math.MaxInt, api.ErrLong}} {
		j, e := file.Resize(s, x.n, x.size)
		is(t, fmt.Sprint(x), e, x.want)
		if j != nil {
			t.Error("a job beside an error")
		}
	}
	_, e := file.Write(nil, 99, -1, "")
	is(t, "a nil store", e, api.ErrNil)
	_, e = file.Resize(nil, 99, -1)
	is(t, "a nil store", e, api.ErrNil)
	if n, f := s.Blocks(); f != n || d.Count() != count {
		t.Error("an error changes something")
	}
	var j *file.Job
	j.Drop()
	done, e := j.Step()
	is(t, "a nil job", e, api.ErrNil)
	is(t, "a nil job", j.All(), api.ErrNil)
	if done || j.Left() != 0 {
		t.Error("a nil job")
	}
}

func TestWriteP22_2(t *testing.T) {
	_, r, s := made(t, config())
	n, _ := s.Blocks()
	write := func(at int, b string, steps int) {
		t.Helper()
		j, e := file.Write(s, 2, at, b)
		does(t, steps, j, e)
	}
	write(70, "abc", 2)
	runs(t, s, 2, run(ext.Hole, 1), run(0, 1))
	want := nul(70) + "abc"
	reads(t, s, 2, want)
	write(0, "", 1)
	write(most, "", 1)
	reads(t, s, 2, want)
	write(71, "X", 2)
	want = nul(70) + "aXc"
	reads(t, s, 2, want)
	write(2, "hole", 2)
	runs(t, s, 2, run(1, 1), run(0, 1))
	want = nul(2) + "hole" + nul(64) + "aXc"
	reads(t, s, 2, want)
	// Longer: the last block is one block, also if it receives bytes.
	write(73, "de", 2)
	want += "de"
	write(80, "f", 2)
	want += nul(5) + "f"
	reads(t, s, 2, want)
	write(60, strings.Repeat("g", 68), 3)
	want = want[:60] + strings.Repeat("g", 68)
	reads(t, s, 2, want)
	// The last block is full.
	write(128, "h", 2)
	want += "h"
	reads(t, s, 2, want)
	write(300, "i", 3)
	runs(t, s, 2, run(1, 1), run(0, 1), run(2, 1), run(ext.Hole, 1), run(3, 1))
	want += nul(171) + "i"
	reads(t, s, 2, want)
	if _, f := s.Blocks(); f != n-4 {
		t.Errorf("%d blocks are free", f)
	}
	s = mount(t, r)
	reads(t, s, 2, want)
	write(most-1, "z", 3)
	if x, _ := s.Tree().Inode(2); x.Size != most || x.Blocks.Blocks() != 65536 {
		t.Error("the greatest size", x.Size)
	}
	if got, _ := file.Read(s, 2, most-3, 9); got != nul(2)+"z" {
		t.Errorf("%q", got)
	}
}

// TestLastBlockP22_3: a block is written by one step, also the last one of a file that becomes longer; what was cut off doesn't come back.
func TestLastBlockP22_3(t *testing.T) {
	for _, x := range []struct {
		size, at, k int
		blocks      int // that are written
		last        string
	}{
		{1, 0, 2, 1, "bb" + nul(62)},
		{5, 5, 1, 1, "ooooob" + nul(58)},
		{5, 30, 1, 1, "ooooo" + nul(25) + "b" + nul(33)},
		{5, 63, 1, 1, "ooooo" + nul(58) + "b"},
		{5, 0, 64, 1, strings.Repeat("b", 64)},
		{60, 60, 10, 2, strings.Repeat("o", 60) + "bbbb"},
		{63, 63, 1, 1, strings.Repeat("o", 63) + "b"},
		{100, 3, 120, 2, strings.Repeat("b", 59) + nul(5)},
		{130, 20, 300, 5, strings.Repeat("b", 64)},
		// It receives no bytes: it is a block of its own.
		{1, 64, 1, 2, "o" + nul(63)},
		{100, 400, 1, 2, strings.Repeat("o", 36) + nul(28)},
		// It is full, or the file becomes no longer.
		{128, 128, 1, 1, strings.Repeat("o", 64)},
		{128, 100, 29, 2, strings.Repeat("o", 36) + strings.Repeat("b", 28)},
		{100, 70, 30, 1, strings.Repeat("o", 6) + strings.Repeat("b", 30) + strings.Repeat("o", 28)},
		{100, 20, 60, 2, strings.Repeat("b", 16) + strings.Repeat("o", 48)},
	} {
		what := fmt.Sprint(x.size, x.at, x.k)
		_, r, s := made(t, config())
		all := func(j *file.Job, e api.Errno) {
			t.Helper()
			if e != api.OK || j.All() != api.OK {
				t.Fatal(what, e)
			}
		}
		// Behind the end the last block has bytes that the file had.
		all(file.Write(s, 2, 0, strings.Repeat("o", 192)))
		all(file.Resize(s, 2, x.size))
		b := strings.Repeat("b", x.k)
		j, e := file.Write(s, 2, x.at, b)
		does(t, x.blocks+1, j, e)
		want := strings.Repeat("o", x.size) + nul(max(0, x.at-x.size))
		want = want[:x.at] + b + want[min(len(want), x.at+x.k):]
		reads(t, s, 2, want)
		f, _ := s.Tree().Inode(2)
		place, _ := f.Blocks.Map((x.size - 1) / 64)
		if got, _ := s.Read(place); got != x.last {
			t.Errorf("%s: the last block is %q", what, got)
		}
		all(file.Resize(s, 2, 500))
		reads(t, mount(t, r), 2, want+nul(500-len(want)))
	}
}

// TestLastBlockFirstP22_3: the last block of a file that becomes longer is written before the others.
func TestLastBlockFirstP22_3(t *testing.T) {
	for _, x := range []struct {
		at, k int
		want  string // after the first step
	}{
		{3, 120, strings.Repeat("o", 64) + strings.Repeat("b", 36)},
		{99, 100, strings.Repeat("o", 99) + "b"},
		{0, 64, strings.Repeat("b", 64) + strings.Repeat("o", 36)},
		{200, 1, strings.Repeat("o", 100)},
	} {
		_, _, s := made(t, config())
		j, _ := file.Write(s, 2, 0, strings.Repeat("o", 192))
		j.All()
		j, _ = file.Resize(s, 2, 100)
		j.All()
		_, free := s.Blocks()
		j, e := file.Write(s, 2, x.at, strings.Repeat("b", x.k))
		if done, f := j.Step(); e != api.OK || f != api.OK || done {
			t.Fatal(e, f, done)
		}
		j.Drop()
		reads(t, s, 2, x.want)
		f, _ := s.Tree().Inode(2)
		place, _ := f.Blocks.Map(1)
		if got, _ := s.Read(place); x.at+x.k > 100 && strings.Contains(got[36:], "o") {
			t.Errorf("%d: the last block is %q", x.at, got)
		}
		if _, n := s.Blocks(); n != free {
			t.Error("a dropped job keeps blocks")
		}
	}
}

func TestResizeP22_2(t *testing.T) {
	_, r, s := made(t, config())
	n, _ := s.Blocks()
	resize := func(size, steps int, want string) {
		t.Helper()
		j, e := file.Resize(s, 2, size)
		does(t, steps, j, e)
		reads(t, s, 2, want)
	}
	resize(0, 1, "")
	resize(100, 1, nul(100))
	runs(t, s, 2, run(ext.Hole, 2))
	text := strings.Repeat("0123456789", 20)
	j, e := file.Write(s, 2, 0, text)
	does(t, 5, j, e)
	resize(200, 1, text)
	resize(130, 1, text[:130])
	runs(t, s, 2, run(0, 3))
	// What was cut off doesn't come back.
	resize(150, 2, text[:130]+nul(20))
	resize(128, 1, text[:128])
	runs(t, s, 2, run(0, 2))
	resize(190, 1, text[:128]+nul(62))
	runs(t, s, 2, run(0, 2), run(ext.Hole, 1))
	resize(500, 1, text[:128]+nul(372))
	resize(5, 1, text[:5])
	if _, f := s.Blocks(); f != n-1 {
		t.Errorf("%d blocks are free", f)
	}
	j, e = file.Write(s, 2, 9, "x")
	does(t, 2, j, e)
	reads(t, s, 2, text[:5]+nul(4)+"x")
	resize(most, 2, text[:5]+nul(4)+"x"+nul(most-10))
	resize(0, 1, "")
	reads(t, mount(t, r), 2, "")
	if _, f := s.Blocks(); f != n {
		t.Errorf("%d blocks are free", f)
	}
}

func TestRunsP22_2(t *testing.T) {
	_, _, s := made(t, config())
	for i := range 32 {
		j, e := file.Write(s, 2, 128*i, "x")
		if e != api.OK || j.All() != api.OK {
			t.Fatal(i, e)
		}
	}
	_, f := s.Blocks()
	for _, at := range []int{64 * 64, 64 * 65} {
		_, e := file.Write(s, 2, at, "x")
		is(t, "a run too many", e, api.ErrSpace)
	}
	if _, g := s.Blocks(); g != f {
		t.Error("blocks stay reserved")
	}
	_, e := file.Write(s, 5, 0, "y")
	is(t, "another file", e, api.OK)
	j, e := file.Resize(s, 2, 64*64)
	if e != api.OK || j.All() != api.OK {
		t.Error(e)
	}
	_, e = file.Write(s, 2, 64*64, "x")
	is(t, "a run too many", e, api.ErrSpace)
	// The blocks are filled one by one: in the middle there is a run too many.
	j, _ = file.Resize(s, 2, 63*64)
	j.All()
	_, e = file.Write(s, 2, 63*64, strings.Repeat("x", 64))
	is(t, "a run more", e, api.OK)
	_, e = file.Write(s, 2, 63*64, strings.Repeat("x", 128))
	is(t, "filled one by one", e, api.ErrSpace)
	full, _ := file.Resize(s, 2, most)
	is(t, "a hole more", full.All(), api.OK)
}

func TestStepsP22_3(t *testing.T) {
	d, _, s := made(t, config())
	n, _ := s.Blocks()
	j, e := file.Write(s, 2, 10, strings.Repeat("x", 200))
	if _, f := s.Blocks(); e != api.OK || f != n-4 || j.Left() != 5 {
		t.Error(e, f)
	}
	j.Step()
	j.Drop()
	if _, f := s.Blocks(); f != n || j.Left() != 0 {
		t.Error("a dropped job keeps blocks")
	}
	_, e = j.Step()
	is(t, "a dropped job", e, api.ErrState)
	j.Drop()
	reads(t, s, 2, "")
	j, _ = file.Write(s, 2, 0, "abc")
	is(t, "All", j.All(), api.OK)
	is(t, "All, done", j.All(), api.OK)
	j.Drop()
	if _, f := s.Blocks(); f != n-1 || j.Left() != 0 {
		t.Error("a done job must not free blocks")
	}
	j, _ = file.Write(s, 2, 64, strings.Repeat("x", 200))
	d.Fuse(15)
	is(t, "All", j.All(), api.ErrPower)
	if _, f := s.Blocks(); f != n-1 || j.Left() != 0 {
		t.Error("a failed job keeps blocks")
	}
	_, e = j.Step()
	is(t, "a failed job", e, api.ErrState)
}

func TestFrozenP22_2(t *testing.T) {
	c := config()
	c.Spares = 0
	d, _, s := made(t, c)
	j, _ := file.Write(s, 2, 0, "abc")
	j.All()
	n, f := s.Blocks()
	j, _ = file.Write(s, 2, 0, strings.Repeat("x", 100))
	for i := range d.Lines() {
		d.Break(i)
	}
	is(t, "a step", j.All(), api.ErrFrozen)
	if m, g := s.Blocks(); m != n || g != f || j.Left() != 0 {
		t.Error("a failed job keeps blocks")
	}
	for _, b := range []string{"", "a", strings.Repeat("x", 50000)} {
		_, e := file.Write(s, 2, 0, b)
		is(t, "Write", e, api.ErrFrozen)
	}
	_, e := file.Resize(s, 2, 3)
	is(t, "Resize", e, api.ErrFrozen)
	_, e = file.Resize(s, 2, most+1)
	is(t, "Resize", e, api.ErrLong)
	_, e = file.Write(s, 2, -1, "")
	is(t, "Write", e, api.ErrInval)
	reads(t, s, 2, "abc")
}

func TestLogFullP22_3(t *testing.T) {
	_, _, s := made(t, config())
	var e api.Errno
	for i := 0; e == api.OK; i++ {
		e = s.Do(func(t *tree.Tree) api.Errno {
			_, e := t.Make(1, fmt.Sprint("name", i), inode.Inode{Kind: inode.Dir})
			return e
		})
	}
	is(t, "the log is full", e, api.ErrSpace)
	n, f := s.Blocks()
	// Runs that the log has no room for any more: the file's inode becomes too long.
	for i := 0; ; i++ {
		if i == 100 {
			t.Fatal("there is always room")
		}
		j, err := file.Write(s, 2, 128*i, "x")
		if err != api.OK {
			t.Fatal(err)
		}
		if e = j.All(); e != api.OK {
			break
		}
		n, f = s.Blocks()
	}
	is(t, "the last step", e, api.ErrSpace)
	if m, g := s.Blocks(); m != n || g != f {
		t.Error("a failed job keeps blocks")
	}
}

// TestRandom holds files against their bytes.
func TestRandom(t *testing.T) {
	x := rand.New(rand.NewPCG(22, 1))
	for range 20 {
		_, r, s := made(t, config())
		want := map[int]string{2: "", 5: ""}
		for step := range 80 {
			n := 2 + 3*x.IntN(2)
			now := want[n]
			at := x.IntN(600)
			var j *file.Job
			var e api.Errno
			if x.IntN(3) > 0 {
				b := strings.Repeat(string(rune('a'+step%26)), x.IntN(200))
				j, e = file.Write(s, n, at, b)
				if b != "" {
					now += nul(max(0, at+len(b)-len(now)))
					now = now[:at] + b + now[at+len(b):]
				}
			} else {
				j, e = file.Resize(s, n, at)
				now = (now + nul(max(0, at-len(now))))[:at]
			}
			if e != api.OK || j.All() != api.OK {
				t.Fatal(e)
			}
			want[n] = now
			if x.IntN(10) == 0 {
				s = mount(t, r)
			}
			reads(t, s, 2, want[2])
			reads(t, s, 5, want[5])
			a, _ := s.Tree().Inode(2)
			b, _ := s.Tree().Inode(5)
			if m, f := s.Blocks(); f != m-a.Blocks.Held()-b.Blocks.Held() {
				t.Fatal("blocks are lost")
			}
		}
	}
}

// TestPowerP22_4 lets lines break and the power fail anywhere.
func TestPowerP22_4(t *testing.T) {
	x := rand.New(rand.NewPCG(23, 1))
	for range 60 {
		c := config()
		c.Spares, c.Psi = 14, 1+x.IntN(6)
		d, r, s := made(t, c)
		now := ""
		for step := range 40 {
			at := x.IntN(400)
			is := now
			var j *file.Job
			var e api.Errno
			touched := func(i int) bool { return false }
			if x.IntN(3) > 0 {
				b := strings.Repeat(string(rune('a'+step%26)), 1+x.IntN(200))
				j, e = file.Write(s, 2, at, b)
				is += nul(max(0, at+len(b)-len(now)))
				is = is[:at] + b + is[at+len(b):]
				touched = func(i int) bool { return i >= at && i < at+len(b) }
			} else {
				j, e = file.Resize(s, 2, at)
				is = (now + nul(max(0, at-len(now))))[:at]
			}
			if e != api.OK {
				t.Fatal(e)
			}
			if x.IntN(2) == 0 {
				d.Fuse(1 + x.IntN(150))
			}
			if x.IntN(20) == 0 {
				d.Break(4 + x.IntN(120))
			}
			e = j.All()
			if e == api.OK {
				now = is
				reads(t, s, 2, now)
				continue
			}
			if e != api.ErrPower {
				t.Fatal(e)
			}
			d.Boot([]bool{x.IntN(2) == 0, true, x.IntN(2) == 0, x.IntN(2) == 0, false, x.IntN(2) == 0, true, true})
			r = open(t, d)
			s = mount(t, r)
			got, _ := file.Read(s, 2, 0, most)
			if len(got) != len(now) && len(got) != len(is) {
				t.Fatalf("%d bytes, not %d or %d", len(got), len(now), len(is))
			}
			for i := range len(got) {
				old := i < len(now) && got[i] == now[i]
				fresh := i < len(is) && got[i] == is[i]
				if i >= len(now) && !fresh || i < len(now) && !old && !(touched(i) && fresh) {
					t.Fatalf("byte %d of %d is %q", i, len(got), got[i])
				}
			}
			if len(got) == len(is) && len(is) > len(now) && got[len(now):] != is[len(now):] {
				t.Fatal("bytes beyond the old Size")
			}
			now = got
		}
	}
}
