package audit_test

import (
	"fmt"
	"math/rand/v2"
	"slices"
	"strings"
	"testing"

	"gabion/alloc"
	"gabion/api"
	"gabion/audit"
	"gabion/boot"
	"gabion/call"
	"gabion/flat"
	"gabion/inode"
	"gabion/pm"
	"gabion/tree"
)

func config() boot.Config {
	return boot.Config{Flat: flat.Config{Regions: 2, Lines: 96, Spares: 4, Psi: 50, Key: 1}, Heat: 20, Half: 1024, Clients: 2}
}

func made(t *testing.T) (*pm.Device, *call.System) {
	t.Helper()
	d, e := pm.New(config().Flat.Size())
	if e != api.OK {
		t.Fatal(e)
	}
	if e := boot.Make(d, config()); e != api.OK {
		t.Fatal(e)
	}
	y, e := boot.Start(d, config())
	if e != api.OK {
		t.Fatal(e)
	}
	return d, y
}

func do(t *testing.T, y *call.System, l ...call.Call) {
	t.Helper()
	for _, c := range l {
		if r, e := y.Do(0, c); e != api.OK || r.Err != api.OK {
			t.Fatalf("%v: %v, %v", c, r.Err, e)
		}
	}
}

func sample(t *testing.T, y *call.System) {
	t.Helper()
	do(t, y,
		call.Call{Kind: call.Mkdir, Path: "/b"}, call.Call{Kind: call.Mkdir, Path: "/b/c"}, call.Call{Kind: call.Open, Path: "/b/c/f", N: 3 | call.Create},
		call.Call{Kind: call.Write, Data: strings.Repeat("x", 100)}, call.Call{Kind: call.Pwrite, Data: "y", At: 300},
		call.Call{Kind: call.Link, Path: "/b/c/f", To: "/a"}, call.Call{Kind: call.Symlink, Path: "/b.", To: "b/ c"}, call.Call{Kind: call.Link, Path: "/b.", To: "/b/z"},
		call.Call{Kind: call.Open, Path: "/gone", N: 3 | call.Create}, call.Call{Kind: call.Write, Fd: 1, Data: "z"}, call.Call{Kind: call.Unlink, Path: "/gone"},
		call.Call{Kind: call.Mkdir, Path: "/d"}, call.Call{Kind: call.Open, Path: "/d", N: 1}, call.Call{Kind: call.Rmdir, Path: "/d"},
	)
}

func TestListP28_1(t *testing.T) {
	if l := audit.List(nil); len(l) != 0 {
		t.Error(l)
	}
	_, y := made(t)
	if l := audit.List(y.Store().Tree()); !slices.Equal(l, []string{"/ d 1 2 0"}) {
		t.Error(l)
	}
	sample(t, y)
	want := []string{"/ d 1 3 0", "/a f 4 2 301", "/b d 2 3 0", "/b/c d 3 2 0", "/b/c/f f 4 2 301", "/b/z l 5 2 4 -> b/ c", "/b. l 5 2 4 -> b/ c"}
	if l := audit.List(y.Store().Tree()); !slices.Equal(l, want) {
		t.Errorf("%q", l)
	}
}

func TestCheckP28_2(t *testing.T) {
	if r, e := audit.Check(nil); r != (audit.Report{}) || e != api.ErrNil {
		t.Error(e)
	}
	_, y := made(t)
	n, _ := y.Store().Blocks()
	if r, e := audit.Check(y.Store()); r != (audit.Report{Dirs: 1, Free: n}) || e != api.OK {
		t.Error(r, e)
	}
	sample(t, y)
	want := audit.Report{Files: 2, Dirs: 4, Links: 1, Names: 6, Deep: 3, Lost: 2, Used: 4, Free: n - 4}
	if r, e := audit.Check(y.Store()); r != want || e != api.OK {
		t.Error(r, e)
	}
	y.Store().Reserve(5)
	want.Free -= 5
	if r, e := audit.Check(y.Store()); r != want || e != api.OK {
		t.Error(r, e)
	}
}

// TestFormP28_2: a change that the store does not forbid, but that leaves blocks in disorder.
func TestFormP28_2(t *testing.T) {
	_, y := made(t)
	n, _ := y.Store().Blocks()
	for i, l := range [][]alloc.Extent{{{At: n, Len: 1}}, {{At: n - 1, Len: 2}}, {{At: 5, Len: 2}, {At: 6, Len: 1}}, {{At: 3, Len: 1}}} {
		_, y := made(t)
		mk := func(name string, l []alloc.Extent) {
			y.Store().Do(func(t *tree.Tree) api.Errno {
				x := inode.Inode{Kind: inode.File, Blocks: l}
				x.Size = 64 * x.Blocks.Blocks()
				_, e := t.Make(1, name, x)
				return e
			})
		}
		mk("a", []alloc.Extent{{At: 2, Len: 2}, {At: n - 1, Len: 1}})
		if _, e := audit.Check(y.Store()); e != api.OK {
			t.Fatal(e)
		}
		mk("b", l)
		if r, e := audit.Check(y.Store()); r != (audit.Report{}) || e != api.ErrForm {
			t.Errorf("%d: %v, %v", i, r, e)
		}
	}
}

func TestWearP28_3(t *testing.T) {
	if a, b, c := audit.Wear(nil); a != 0 || b != 0 || c != 0 {
		t.Error("a nil device")
	}
	d, _ := pm.New(3)
	if a, b, c := audit.Wear(d); a != 0 || b != 0 || c != 0 {
		t.Error("a new device")
	}
	for line, n := range []int{2, 5, 3} {
		for range n {
			d.Store(8*line, 1)
			d.Flush(line)
			d.Fence()
		}
	}
	if a, b, c := audit.Wear(d); a != 2 || b != 5 || c != 10 {
		t.Error(a, b, c)
	}
	one, _ := pm.New(1)
	one.Store(0, 1)
	one.Boot([]bool{true})
	if a, b, c := audit.Wear(one); a != 1 || b != 1 || c != 1 {
		t.Error(a, b, c)
	}
}

// TestSoundP28_2 checks the store behind random calls, and behind failures of the power.
func TestSoundP28_2(t *testing.T) {
	x := rand.New(rand.NewPCG(30, 1))
	for range 12 {
		d, y := made(t)
		for range 150 {
			c := x.IntN(2)
			if x.IntN(15) == 0 {
				d.Fuse(1 + x.IntN(200))
			}
			if !y.Under(c) {
				y.Begin(c, call.Call{
					Kind: call.Kind(1 + x.IntN(int(call.Kinds)-1)), Path: fmt.Sprint("/", x.IntN(4)), To: fmt.Sprint("/", x.IntN(4)), Fd: x.IntN(3), N: x.IntN(64), At: x.IntN(300),
					Data: strings.Repeat("d", x.IntN(200)),
				})
			}
			y.Step(c)
			if d.Off() {
				d.Boot([]bool{true, false, true})
				z, e := boot.Start(d, config())
				if e != api.OK {
					t.Fatal(e)
				}
				y = z
				if r, _ := audit.Check(y.Store()); r.Lost != 0 {
					t.Error("something is lost behind a start", r)
				}
			}
			r, e := audit.Check(y.Store())
			n, f := y.Store().Blocks()
			if e != api.OK || r.Free != f || r.Used > n-f {
				t.Fatal(r, e)
			}
		}
	}
}
