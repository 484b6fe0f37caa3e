package boot_test

import (
	"fmt"
	"math"
	"math/rand/v2"
	"slices"
	"strings"
	"testing"

	"gabion/api"
	"gabion/boot"
	"gabion/call"
	"gabion/file"
	"gabion/flat"
	"gabion/inode"
	"gabion/line"
	"gabion/pm"
	"gabion/tree"
)

func config(regions, lines, spares, psi, heat, half, clients int) boot.Config {
	return boot.Config{Flat: flat.Config{Regions: regions, Lines: lines, Spares: spares, Psi: psi, Key: 1}, Heat: heat, Half: half, Clients: clients}
}

func small() boot.Config { return config(2, 64, 0, 5, 9, 512, 1) }

func device(t *testing.T, lines int) *pm.Device {
	t.Helper()
	d, e := pm.New(lines)
	if e != api.OK {
		t.Fatal(e)
	}
	return d
}

func start(t *testing.T, d *pm.Device, c boot.Config) *call.System {
	t.Helper()
	y, e := boot.Start(d, c)
	if e != api.OK || y == nil {
		t.Fatal(e)
	}
	return y
}

func made(t *testing.T, c boot.Config) (*pm.Device, *call.System) {
	t.Helper()
	d := device(t, c.Flat.Size())
	if e := boot.Make(d, c); e != api.OK {
		t.Fatal(e)
	}
	return d, start(t, d, c)
}

func TestCheckP27_1(t *testing.T) {
	for i, x := range []struct {
		c      boot.Config
		lines  int
		e      api.Errno
		blocks int
	}{
		{small(), 133, api.OK, 87}, {small(), 132, api.ErrRange, 87}, {small(), math.MaxInt, api.OK, 87}, {small(), math.MinInt, api.ErrRange, 87},
		{config(2, 64, 0, 5, 9, 3264, 1), 999, api.OK, 1}, {config(2, 64, 0, 5, 9, 3328, 1), 999, api.ErrArg, 0}, {config(2, 16, 0, 5, 9, 192, 8), 999, api.OK, 1}, {config(2, 16, 0, 5, 9, 256, 1), 999, api.ErrArg, 0},
		{config(0, 64, 0, 5, 9, 512, 1), 999, api.ErrArg, 0}, {config(2, 60, 0, 5, 9, 512, 1), 999, api.ErrArg, 0}, {config(2, 64, 65, 5, 9, 512, 1), 999, api.ErrArg, 0}, {config(2, 64, 0, 0, 9, 512, 1), 999, api.ErrArg, 0},
		{config(2, 8, 0, 5, 9, 64, 1), 999, api.ErrArg, 0}, {config(2, 64, 0, 5, 0, 512, 1), 999, api.ErrArg, 0}, {config(2, 64, 0, 5, -1, 512, 1), 999, api.ErrArg, 0}, {config(2, 64, 0, 5, math.MaxInt, 512, 1), 999, api.OK, 87},
		{config(2, 64, 0, 5, 9, 0, 1), 999, api.ErrArg, 0}, {config(2, 64, 0, 5, 9, 500, 1), 999, api.ErrArg, 0}, {config(2, 64, 0, 5, 9, -64, 1), 999, api.ErrArg, 0}, {config(2, 64, 0, 5, 9, math.MaxInt, 1), 999, api.ErrArg, 0},
		{config(2, 64, 0, 5, 9, 512, 0), 999, api.ErrArg, 0}, {config(2, 64, 0, 5, 9, 512, 9), 999, api.ErrArg, 0}, {config(2, 64, 0, 5, 9, 512, 8), 999, api.OK, 87}, {boot.Config{}, 999, api.ErrArg, 0},
		{config(2, 64, 0, 5, 9, 512, 0), 1, api.ErrArg, 0}, {config(16, 1024, 64, 5, 9, 512, 1), 8192, api.ErrRange, (2000*512 - 64 - 1024) / 64},
	} {
		if e := x.c.Check(x.lines); e != x.e || x.c.Blocks() != x.blocks {
			t.Errorf("%d: %v, %d blocks", i, e, x.c.Blocks())
		}
		if work := boot.Work(x.c); x.blocks == 0 && work != 0 || x.blocks > 0 && work != 3+13*x.c.Flat.Spares {
			t.Errorf("%d: work %d", i, work)
		}
	}
}

func TestMakeP27_2(t *testing.T) {
	d, y := made(t, small())
	n, f := y.Store().Blocks()
	if n != 87 || f != 87 || y.Clients() != 1 || y.Store().Tree().Len() != 1 {
		t.Errorf("%d blocks, %d free", n, f)
	}
	bad := config(2, 64, 0, 5, 9, 512, 0)
	if boot.Make(nil, bad) != api.ErrNil || boot.Make(d, bad) != api.ErrArg || boot.Make(device(t, 132), small()) != api.ErrRange {
		t.Error("errors of Make")
	}
	for _, x := range []struct {
		d *pm.Device
		c boot.Config
		e api.Errno
	}{{nil, bad, api.ErrNil}, {d, bad, api.ErrArg}, {device(t, 132), small(), api.ErrRange}, {device(t, 133), small(), api.ErrForm}} {
		if y, e := boot.Start(x.d, x.c); y != nil || e != x.e {
			t.Errorf("Start: %v, not %v", e, x.e)
		}
	}
	if e := boot.Make(device(t, 133), config(2, 64, 0, 5, 9, 64, 1)); e != api.ErrFull {
		t.Error("a log that is too small for a root:", e)
	}
	d.Break(0)
	line.PutWord(d, 66+1, 0, 0)
	if e := boot.Make(device(t, 200), small()); e != api.OK {
		t.Error("a greater device:", e)
	}
	c := small()
	c.Heat = 1
	d, y = made(t, c)
	for i := range 30 {
		y.Do(0, call.Call{Kind: call.Mkdir, Path: fmt.Sprint("/", i%3)})
		y.Do(0, call.Call{Kind: call.Rmdir, Path: fmt.Sprint("/", i%3)})
	}
	y.Do(0, call.Call{Kind: call.Mkdir, Path: "/last"})
	z := start(t, d, c)
	if r, e := z.Do(0, call.Call{Kind: call.Stat, Path: "/last"}); e != api.OK || r.Err != api.OK || len(z.Files(0)) != 0 {
		t.Error(r, e)
	}
}

// TestWorkP27_3 counts what a Start does, also where spares are used up by it.
func TestWorkP27_3(t *testing.T) {
	for _, spares := range []int{0, 1, 9} {
		c := small()
		c.Flat.Spares = spares
		d, y := made(t, c)
		y.Do(0, call.Call{Kind: call.Open, Path: "/a", N: 3 | call.Create})
		y.Do(0, call.Call{Kind: call.Write, Data: strings.Repeat("x", 300)})
		y.Do(0, call.Call{Kind: call.Unlink, Path: "/a"})
		n := d.Count()
		start(t, d, c)
		if d.Count() != n+3 {
			t.Errorf("%d operations", d.Count()-n)
		}
		for i := range c.Flat.Lines + 2 + spares {
			d.Break(1 + (spares+7)/8 + i)
			d.Break(1 + (c.Flat.Size()-1)/2 + (spares+7)/8 + i)
		}
		for range 3 {
			n = d.Count()
			y, e := boot.Start(d, c)
			if e != api.ErrSpares || y != nil || d.Count()-n > boot.Work(c) {
				t.Errorf("%v, %d operations", e, d.Count()-n)
			}
		}
	}
}

func keep(x *rand.Rand) []bool {
	l := make([]bool, 10)
	for i := range l {
		l[i] = x.IntN(2) == 0
	}
	return l
}

// TestPowerInMakeP27_4 lets the power fail at each operation of a Make.
func TestPowerInMakeP27_4(t *testing.T) {
	x := rand.New(rand.NewPCG(28, 1))
	c := config(2, 32, 2, 3, 4, 192, 1)
	for n := 1; ; n++ {
		d := device(t, c.Flat.Size())
		if n%2 == 0 {
			// There was another system.
			boot.Make(d, c)
			y := start(t, d, c)
			y.Do(0, call.Call{Kind: call.Mkdir, Path: "/old"})
		}
		d.Fuse(n)
		e := boot.Make(d, c)
		off := d.Off()
		d.Boot(keep(x))
		y, e2 := boot.Start(d, c)
		if e == api.OK && off || e == api.OK && e2 != api.OK || e != api.OK && e != api.ErrPower {
			t.Fatal(n, e, e2)
		}
		if e2 == api.OK {
			l, _ := y.Store().Tree().Names(tree.Root)
			// The first operations leave the old head as it is.
			if len(l) > 0 && n > 10 {
				t.Fatal(n, "the system is not empty", l)
			}
		}
		if e == api.OK {
			return
		}
	}
}

func sameNames(a, b *tree.Tree) bool {
	i, n := a.Parts()
	j, m := b.Parts()
	gone := func(x tree.Item) bool { return x.Inode.Links == 0 }
	i, j = slices.DeleteFunc(i, gone), slices.DeleteFunc(j, gone)
	return slices.Equal(n, m) && slices.EqualFunc(i, j, func(x, y tree.Item) bool { return x.N == y.N && inode.Equal(x.Inode, y.Inode) })
}

// TestPowerP27_4 lets lines break and the power fail anywhere, also in a Start, again and again.
func TestPowerP27_4(t *testing.T) {
	x := rand.New(rand.NewPCG(29, 1))
	fails := 0
	for range 25 {
		c := config(2, 96, 20, 1+x.IntN(6), 1+x.IntN(20), 1024, 1)
		d, y := made(t, c)
		y.Do(0, call.Call{Kind: call.Open, Path: "/f", N: 3 | call.Create})
		for step := range 60 {
			name, to := fmt.Sprint("/", x.IntN(4)), fmt.Sprint("/", x.IntN(4))
			k := []call.Kind{call.Mkdir, call.Rmdir, call.Rename, call.Symlink, call.Unlink, call.Write, call.Ftruncate}[x.IntN(7)]
			cl := call.Call{Kind: k, Path: name, To: to, N: x.IntN(300), Data: strings.Repeat(string(rune('a'+step%26)), x.IntN(150))}
			if x.IntN(2) == 0 {
				d.Fuse(1 + x.IntN(200))
			}
			if x.IntN(12) == 0 {
				l := x.IntN(y.Store().Tree().Len() + 90)
				d.Break(4 + l)
			}
			was := y.Store().Tree()
			r, e := y.Do(0, cl)
			if e != api.OK {
				t.Fatal(e)
			}
			if r.Err != api.ErrPower && r.Err != api.ErrState {
				continue
			}
			fails++
			var z *call.System
			for {
				d.Boot(keep(x))
				if x.IntN(2) == 0 {
					d.Fuse(1 + x.IntN(4))
				}
				n := d.Count()
				z, e = boot.Start(d, c)
				if d.Count()-n > boot.Work(c) {
					t.Fatal("too much work")
				}
				if e != api.ErrPower {
					break
				}
			}
			if e != api.OK {
				t.Fatal(e)
			}
			d.Fuse(0)
			got := z.Store().Tree()
			if !sameNames(got, was) {
				// Then it is the tree behind the call.
				if k == call.Write || k == call.Ftruncate {
					a, _ := got.Inode(2)
					b, _ := was.Inode(2)
					if a.Links != b.Links || a.Size == b.Size && inode.Equal(a, b) {
						t.Fatal("neither old nor new")
					}
				} else if !after(was, cl, got) {
					t.Fatalf("%v: neither the old nor the new tree", cl)
				}
			}
			if s, e := file.Read(z.Store(), 2, 0, 99999); e != api.OK || strings.Contains(s, "\xff") {
				t.Fatal(e)
			}
			y = z
			if r, _ := y.Do(0, call.Call{Kind: call.Open, Path: "/f", N: 3}); r.Err != api.OK {
				t.Fatal(r.Err)
			}
		}
	}
	if fails < 100 {
		t.Error("the power failed only", fails, "times")
	}
}

// after reports whether a tree is another one after a call on names in the root.
func after(was *tree.Tree, c call.Call, got *tree.Tree) bool {
	name, to := c.Path[1:], c.To[1:]
	switch c.Kind {
	case call.Mkdir:
		was.Make(1, name, inode.Inode{Kind: inode.Dir})
	case call.Rmdir:
		was.Rmdir(1, name)
	case call.Rename:
		was.Rename(1, name, 1, to)
	case call.Symlink:
		was.Make(1, name, inode.Inode{Kind: inode.Link, Size: len(c.To), Target: c.To})
	case call.Unlink:
		was.Unlink(1, name)
	}
	return sameNames(was, got)
}
