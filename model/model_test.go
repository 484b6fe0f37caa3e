package model_test

import (
	"fmt"
	"math"
	"math/rand/v2"
	"reflect"
	"slices"
	"strings"
	"testing"

	"gabion/api"
	"gabion/audit"
	"gabion/boot"
	"gabion/call"
	"gabion/flat"
	"gabion/model"
	"gabion/pm"
)

const (
	most   = 65536 * 64
	rounds = 10
)

func config() boot.Config {
	return boot.Config{Flat: flat.Config{Regions: 3, Lines: 256, Spares: 8, Psi: 30, Key: 7}, Heat: 25, Half: 4096, Clients: 3}
}

func made(t *testing.T) (*pm.Device, *call.System) {
	t.Helper()
	d, e := pm.New(config().Flat.Size())
	if e != api.OK {
		t.Fatal(e)
	}
	if e := boot.Make(d, config()); e != api.OK {
		t.Fatal(e)
	}
	return d, start(t, d)
}

func start(t *testing.T, d *pm.Device) *call.System {
	t.Helper()
	y, e := boot.Start(d, config())
	if e != api.OK {
		t.Fatal(e)
	}
	return y
}

func world(t *testing.T, clients int) *model.World {
	t.Helper()
	w, e := model.New(clients)
	if e != api.OK || w == nil {
		t.Fatal(e)
	}
	return w
}

func same(a, b call.Result) bool {
	x, y := a.Names, b.Names
	a.Names, b.Names = nil, nil
	return slices.Equal(x, y) && reflect.DeepEqual(a, b)
}

func do(t *testing.T, w *model.World, c call.Call, want call.Result) {
	t.Helper()
	if r, e := w.Do(0, c); e != api.OK || !same(r, want) {
		t.Fatalf("%v: %v, %v, not %v", c, r, e, want)
	}
}

func opn(p string, n int) call.Call { return call.Call{Kind: call.Open, Path: p, N: n} }

func on(k call.Kind, p string) call.Call { return call.Call{Kind: k, Path: p} }

func write(fd int, b string) call.Call { return call.Call{Kind: call.Write, Fd: fd, Data: b} }

func TestNewP29_1(t *testing.T) {
	for _, n := range []int{0, -1, 9, math.MinInt, math.MaxInt} {
		if w, e := model.New(n); w != nil || e != api.ErrArg {
			t.Errorf("New(%d): %v", n, e)
		}
	}
	w := world(t, 2)
	for _, c := range []int{-1, 2, math.MinInt, math.MaxInt} {
		if r, e := w.Do(c, on(call.Mkdir, "/a")); e != api.ErrArg || !same(r, call.Result{}) {
			t.Errorf("client %d: %v", c, e)
		}
	}
	_, y := made(t)
	if !slices.Equal(w.Lines(), []string{"/ d 1 2 0"}) || !w.Same(y) {
		t.Error("a new World")
	}
	var none *model.World
	none.Lost()
	if r, e := none.Do(0, on(call.Mkdir, "/a")); e != api.ErrNil || !same(r, call.Result{}) || none.Copy() != nil || none.Same(y) || none.Same(nil) || len(none.Lines()) != 0 || w.Same(nil) {
		t.Error("a nil World")
	}
}

func TestExampleP29_1(t *testing.T) {
	w := world(t, 1)
	do(t, w, opn("a", call.Create|2), call.Result{})
	do(t, w, write(0, "hi"), call.Result{N: 2})
	if !slices.Equal(w.Lines(), []string{"/ d 1 2 0", "/a f 2 1 2"}) {
		t.Error(w.Lines())
	}
	do(t, w, call.Call{Kind: 0}, call.Result{Err: api.ErrInval})
	do(t, w, call.Call{Kind: call.Kinds}, call.Result{Err: api.ErrInval})
}

func TestRoomP29_1(t *testing.T) {
	w := world(t, 1)
	do(t, w, opn("/a", call.Create|3), call.Result{})
	for i := range 100 {
		do(t, w, call.Call{Kind: call.Pwrite, Data: strings.Repeat("x", 1000), At: 40000 * i}, call.Result{N: 1000})
	}
	do(t, w, call.Call{Kind: call.Pwrite, Data: "end", At: most - 3}, call.Result{N: 3})
	do(t, w, call.Call{Kind: call.Pwrite, Data: "end", At: most - 2}, call.Result{Err: api.ErrLong})
	do(t, w, call.Call{Kind: call.Pread, N: math.MaxInt, At: most - 4}, call.Result{Data: "\x00end"})
	do(t, w, call.Call{Kind: call.Seek, N: 2, At: -most}, call.Result{})
	do(t, w, call.Call{Kind: call.Seek, N: 2, At: -most - 1}, call.Result{Err: api.ErrInval})
	do(t, w, call.Call{Kind: call.Pread, N: 4, At: 999}, call.Result{Data: "x\x00\x00\x00"})
}

func TestCopyP29_1(t *testing.T) {
	w := world(t, 2)
	for _, p := range []string{"/a", "/b", "/c"} {
		w.Do(1, opn(p, call.Create|3))
	}
	w.Do(1, write(1, "hello"))
	w.Do(1, call.Call{Kind: call.Close, Fd: 0})
	w.Do(0, opn("/b", 1))
	w.Do(0, on(call.Unlink, "/b"))
	c := w.Copy()
	fstat := call.Call{Kind: call.Fstat, Fd: 1}
	for _, x := range []*model.World{c, w} {
		if r, _ := x.Do(1, fstat); !same(r, call.Result{Facts: call.Facts{N: 3, Kind: 1, Size: 5}}) {
			t.Error(r)
		}
		if r, _ := x.Do(1, call.Call{Kind: call.Close, Fd: 0}); r.Err != api.ErrBad {
			t.Error(r)
		}
		if r, _ := x.Do(1, call.Call{Kind: call.Seek, Fd: 1, N: 1}); r.N != 5 {
			t.Error(r)
		}
		if r, _ := x.Do(1, write(1, "!")); r.N != 1 {
			t.Error(r)
		}
		if r, _ := x.Do(1, call.Call{Kind: call.Pread, Fd: 1, N: 99}); r.Data != "hello!" {
			t.Error(r)
		}
		if r, _ := x.Do(1, opn("/c", 1)); r.N != 0 {
			t.Error(r)
		}
		x.Do(1, call.Call{Kind: call.Ftruncate, Fd: 1, N: 2})
		x.Do(1, call.Call{Kind: call.Ftruncate, Fd: 1, N: 4})
		if r, _ := x.Do(0, call.Call{Kind: call.Read, Fd: 0, N: 99}); r.Data != "he\x00\x00" {
			t.Error(r)
		}
		x.Do(1, call.Call{Kind: call.Close, Fd: 1})
		if r, _ := x.Do(0, call.Call{Kind: call.Fstat}); r.Facts.N != 3 {
			t.Error(r)
		}
		x.Do(0, call.Call{Kind: call.Close})
		x.Do(0, on(call.Mkdir, "/new"))
		if !slices.Equal(x.Lines(), []string{"/ d 1 3 0", "/a f 2 1 0", "/c f 4 1 0", "/new d 3 2 0"}) {
			t.Error(x.Lines())
		}
	}
}

func TestLostP29_2(t *testing.T) {
	w := world(t, 2)
	w.Do(0, opn("/a", call.Create|3))
	w.Do(0, write(0, "abc"))
	w.Do(1, opn("/a", 1))
	w.Do(0, opn("/b", call.Create|3))
	w.Do(0, write(1, "abc"))
	w.Do(0, on(call.Unlink, "/b"))
	w.Lost()
	do(t, w, call.Call{Kind: call.Fstat}, call.Result{Err: api.ErrBad})
	if r, _ := w.Do(1, call.Call{Kind: call.Fstat}); r.Err != api.ErrBad {
		t.Error(r)
	}
	if !slices.Equal(w.Lines(), []string{"/ d 1 2 0", "/a f 2 1 3"}) {
		t.Error(w.Lines())
	}
	do(t, w, opn("/c", call.Create|3), call.Result{})
	do(t, w, call.Call{Kind: call.Ftruncate, N: 3}, call.Result{})
	do(t, w, call.Call{Kind: call.Fstat}, call.Result{Facts: call.Facts{N: 3, Kind: 1, Links: 1, Size: 3}})
	do(t, w, call.Call{Kind: call.Read, N: 9}, call.Result{Data: "\x00\x00\x00"})
	do(t, w, on(call.Unlink, "/a"), call.Result{})
	do(t, w, opn("/d", call.Create|3), call.Result{N: 1})
	do(t, w, call.Call{Kind: call.Fstat, Fd: 1}, call.Result{Facts: call.Facts{N: 2, Kind: 1, Links: 1}})
}

func TestSameP29_3(t *testing.T) {
	base := []call.Call{opn("/f", call.Create|3), write(0, "hello"), on(call.Mkdir, "/d"), {Kind: call.Symlink, Path: "/l", To: "f"}, {Kind: call.Link, Path: "/f", To: "/d/g"}}
	_, y := made(t)
	w := world(t, 3)
	for _, c := range base {
		y.Do(0, c)
		w.Do(0, c)
	}
	if !w.Same(y) || !slices.Equal(w.Lines(), audit.List(y.Store().Tree())) {
		t.Fatal("not the same")
	}
	for i, c := range []call.Call{
		on(call.Mkdir, "/x"), on(call.Unlink, "/l"), on(call.Unlink, "/d/g"), {Kind: call.Pwrite, Data: "H"}, {Kind: call.Pwrite, Data: "!", At: 4}, {Kind: call.Ftruncate, N: 4}, {Kind: call.Ftruncate, N: 6},
		{Kind: call.Rename, Path: "/l", To: "/m"}, {Kind: call.Rename, Path: "/l", To: "/d/l"}, {Kind: call.Link, Path: "/l", To: "/m"}, {Kind: call.Truncate, Path: "/f", N: 100},
	} {
		v := w.Copy()
		if r, _ := v.Do(0, c); r.Err != api.OK || v.Same(y) {
			t.Errorf("%d: %v, the same", i, r.Err)
		}
	}
	v := w.Copy()
	v.Do(0, on(call.Unlink, "/l"))
	v.Do(0, call.Call{Kind: call.Symlink, Path: "/l", To: "g"})
	if v.Same(y) {
		t.Error("another target")
	}
	v = w.Copy()
	v.Do(0, on(call.Unlink, "/l"))
	v.Do(0, opn("/l", call.Create|3))
	if v.Same(y) {
		t.Error("another kind")
	}
	v = w.Copy()
	v.Do(0, opn("/gone", call.Create|3))
	v.Do(0, on(call.Unlink, "/gone"))
	if !v.Same(y) {
		t.Error("inodes without a name are ignored")
	}
	v.Do(0, on(call.Mkdir, "/n"))
	y.Do(0, on(call.Mkdir, "/n"))
	if v.Same(y) {
		t.Error("another number")
	}
	y.Do(1, opn("/n", 1))
	y.Do(1, on(call.Rmdir, "/n"))
	if !w.Same(y) {
		t.Error("inodes without a name are ignored")
	}
}

// random is a call on few names; most of them can be made.
func random(x *rand.Rand) call.Call {
	name := func() string {
		return []string{"/a", "/b", "c", "/d", "/d/a", "/d/b", "/d/e", "/d/e/a", "/l", "/l/a", "/m", "/", "d/..", "/d/", "/a/", ".", "", "/d/e/../b", "/" + strings.Repeat("x", 33)}[x.IntN(19)]
	}
	if x.IntN(3) == 0 {
		names := []string{"/a", "/b", "/d/a", "/d/b", "/d/e/a", "/l"}
		return opn(names[x.IntN(6)], []int{3, 11, 11, 15, 9, 35, 43, 27}[x.IntN(8)])
	}
	if x.IntN(6) == 0 {
		return on([]call.Kind{call.Mkdir, call.Rmdir, call.Unlink, call.Readdir}[x.IntN(4)], []string{"/d", "/d/e", "/a", "/c", "/d/"}[x.IntN(5)])
	}
	if x.IntN(6) == 0 {
		names := []string{"/a", "/b", "/c", "/d/a", "/d/f", "/l", "/m", "/d/e", "/d"}
		k := []call.Kind{call.Link, call.Rename, call.Symlink, call.Readlink}[x.IntN(4)]
		return call.Call{Kind: k, Path: names[x.IntN(9)], To: names[x.IntN(9)]}
	}
	flags := []int{1, 2, 3, 6, 7, 9, 10, 11, 14, 15, 27, 34, 43, 47, 58, 0, 4, 64, 33}
	return call.Call{
		Kind: call.Kind(x.IntN(int(call.Kinds) + 1)),
		Path: name(), To: name(), Fd: x.IntN(5) - x.IntN(2),
		N:    []int{flags[x.IntN(len(flags))], x.IntN(300), x.IntN(300), x.IntN(3), -1}[x.IntN(5)],
		At:   x.IntN(400) - 10,
		Data: strings.Repeat(fmt.Sprint(x.IntN(10)), x.IntN(150)),
	}
}

// TestOneByOneP29_4 makes the same calls in both.
func TestOneByOneP29_4(t *testing.T) {
	x := rand.New(rand.NewPCG(31, 1))
	fine := map[call.Kind]int{}
	for range 30 {
		d, y := made(t)
		w := world(t, 3)
		for range 300 {
			c, client := random(x), x.IntN(3)
			r, e := y.Do(client, c)
			want, e2 := w.Do(client, c)
			if e != e2 || !same(r, want) {
				t.Fatalf("%v: %v, not %v", c, r, want)
			}
			if r.Err == api.OK {
				fine[c.Kind]++
			}
			if x.IntN(60) == 0 {
				d.Boot(nil)
				y = start(t, d)
				w.Lost()
			}
			if !w.Same(y) || !slices.Equal(w.Lines(), audit.List(y.Store().Tree())) {
				t.Fatalf("%v: not the same", c)
			}
			if _, e := audit.Check(y.Store()); e != api.OK {
				t.Fatal(e)
			}
			if x.IntN(30) == 0 {
				w = w.Copy()
			}
		}
	}
	for k := call.Open; k < call.Kinds; k++ {
		if fine[k] < 10 {
			t.Error("only", fine[k], "calls of the kind", k, "come to something")
		}
	}
}

// TestInterleavedP29_4 steps several clients; the World makes each call when it ends. Lines break meanwhile.
func TestInterleavedP29_4(t *testing.T) {
	x := rand.New(rand.NewPCG(32, 1))
	for range 30 {
		d, y := made(t)
		w := world(t, 3)
		var calls [3]call.Call
		for range 500 {
			client := x.IntN(3)
			if !y.Under(client) {
				calls[client] = random(x)
				y.Begin(client, calls[client])
			}
			if x.IntN(60) == 0 {
				d.Break(1 + 3 + x.IntN(200))
			}
			r, over, e := y.Step(client)
			if e != api.OK {
				t.Fatal(e)
			}
			if !over {
				continue
			}
			if want, _ := w.Do(client, calls[client]); !same(r, want) {
				t.Fatalf("%v: %v, not %v", calls[client], r, want)
			}
		}
		for i := 0; y.Under(0) || y.Under(1) || y.Under(2); i++ {
			if client := i % 3; y.Under(client) {
				if _, over, _ := y.Step(client); over {
					w.Do(client, calls[client])
				}
			}
		}
		if !w.Same(y) {
			t.Fatal("not the same")
		}
	}
}

// TestPower lets the power fail in calls (P4): behind a start all is there that was answered, and possibly the call in progress.
func TestPower(t *testing.T) {
	x := rand.New(rand.NewPCG(33, 1))
	fails := 0
	for range 30 {
		d, y := made(t)
		w := world(t, 3)
		for range 150 {
			c := random(x)
			if c.Kind == call.Write || c.Kind == call.Pwrite {
				continue // bytes in place may be old or new
			}
			if x.IntN(3) == 0 {
				d.Fuse(1 + x.IntN(60))
			}
			r, e := y.Do(0, c)
			if e != api.OK {
				t.Fatal(e)
			}
			if !d.Off() {
				if want, _ := w.Do(0, c); !same(r, want) {
					t.Fatalf("%v: %v, not %v", c, r, want)
				}
				continue
			}
			fails++
			d.Boot([]bool{x.IntN(2) == 0, x.IntN(2) == 0, x.IntN(2) == 0, true, false, x.IntN(2) == 0})
			y = start(t, d)
			after := w.Copy()
			after.Do(0, c)
			after.Lost()
			w.Lost()
			if !w.Same(y) {
				w = after
			}
			if !w.Same(y) {
				t.Fatalf("%v: neither before nor after: %q, not %q", c, audit.List(y.Store().Tree()), w.Lines())
			}
		}
	}
	if fails < 100 {
		t.Error("the power failed only", fails, "times")
	}
}

// TestCornersP29_4 makes the calls that the document's edges name in both, with numbers at the limits.
func TestCornersP29_4(t *testing.T) {
	x := rand.New(rand.NewPCG(35, 1))
	names := []string{"/a", "/d", "/new", "/new/", "/a/", "/d/", "/l", "/l/", "/ld", "/ld/", "/ln", "/loop", "/loop/x", "/d/e", "/ld/e", "/ld/f", "/none/x", "/a/x", "/none/..", "/", ".", "..", "d/..", "", strings.Repeat("x", 33), strings.Repeat("/", 257), "a\x00"}
	numbers := []int{0, 1, 2, 3, 4, 5, 7, 9, 10, 11, 19, 25, 26, 27, 34, 41, 42, 43, 63, 64, 100, most - 1, most, most + 1, 1 << 62, 1<<62 - 100, 1<<62 + 1, -1, -(1 << 62), math.MaxInt, math.MinInt}
	for range 25 {
		_, y := made(t)
		w := world(t, 3)
		both := func(c call.Call) {
			t.Helper()
			client := x.IntN(2)
			r, e := y.Do(client, c)
			want, e2 := w.Do(client, c)
			if e != e2 || !same(r, want) {
				t.Fatalf("%v: %v, not %v", c, r, want)
			}
		}
		for _, c := range []call.Call{
			on(call.Mkdir, "/d"), on(call.Mkdir, "/d/e"), opn("/a", call.Create|3), opn("/a", call.Create|7), opn("/a", 1), opn("/d", 1), {Kind: call.Symlink, Path: "/l", To: "a"}, {Kind: call.Symlink, Path: "/ld", To: "d/"},
			{Kind: call.Symlink, Path: "/ln", To: "none"}, {Kind: call.Symlink, Path: "/loop", To: "loop"},
		} {
			both(c)
		}
		for range 400 {
			both(call.Call{
				Kind: call.Kind(1 + x.IntN(int(call.Kinds)-1)), Path: names[x.IntN(len(names))], To: names[x.IntN(len(names))], Fd: x.IntN(4),
				N: numbers[x.IntN(len(numbers))], At: numbers[x.IntN(len(numbers))], Data: strings.Repeat("x", x.IntN(3)*x.IntN(40)),
			})
		}
		if !w.Same(y) {
			t.Fatal("not the same")
		}
	}
}

// TestStaleP29_1: the bytes of a file that is gone are not those of the next one with its number.
func TestStaleP29_1(t *testing.T) {
	w := world(t, 1)
	for i := range 4 {
		do(t, w, opn("/a", call.Create|3), call.Result{})
		do(t, w, call.Call{Kind: call.Ftruncate, N: 3}, call.Result{})
		do(t, w, call.Call{Kind: call.Read, N: 9}, call.Result{Data: "\x00\x00\x00"})
		do(t, w, call.Call{Kind: call.Pwrite, Data: "abc"}, call.Result{N: 3})
		do(t, w, on(call.Unlink, "/a"), call.Result{})
		if i%2 == 0 {
			w.Lost()
		} else {
			do(t, w, call.Call{Kind: call.Close}, call.Result{})
		}
	}
}

// content is the bytes of a path behind a failure of the power.
func content(w *model.World, p string) (string, bool) {
	w = w.Copy()
	w.Lost()
	if r, _ := w.Do(0, opn(p, 1)); r.Err != api.OK {
		return "", false
	}
	r, _ := w.Do(0, call.Call{Kind: call.Read, N: most})
	return r.Data, r.Err == api.OK
}

// files is the paths of the files of a listing.
func files(list []string) []string {
	var l []string
	for _, line := range list {
		if p, _, ok := strings.Cut(line, " f "); ok {
			l = append(l, p)
		}
	}
	return l
}

// stored is the same of a system.
func stored(y *call.System, p string) (string, bool) {
	r, _ := y.Do(2, opn(p, 1))
	if r.Err != api.OK {
		return "", false
	}
	fd := r.N
	r, _ = y.Do(2, call.Call{Kind: call.Read, Fd: fd, N: most})
	y.Do(2, call.Call{Kind: call.Close, Fd: fd})
	return r.Data, r.Err == api.OK
}

// mixed reports whether bytes are those of a World, but for bytes that the calls under way were writing in place.
func mixed(got string, w *model.World, p string, under []*model.World) bool {
	want, ok := content(w, p)
	if !ok || len(got) != len(want) {
		return false
	}
	others := []string{}
	for _, v := range under {
		if s, ok := content(v, p); ok {
			others = append(others, s)
		}
	}
	for i := range len(got) {
		fits := got[i] == want[i]
		for _, s := range others {
			fits = fits || i < len(s) && got[i] == s[i]
		}
		if !fits {
			return false
		}
	}
	return true
}

// TestPowerInterleaved lets the power fail while several clients are under way, lines break, and starts fail, too (P3, P4).
func TestPowerInterleaved(t *testing.T) {
	x := rand.New(rand.NewPCG(36, 1))
	fails, changed := 0, 0
	for range rounds {
		d, y := made(t)
		w := world(t, 3)
		var calls [3]call.Call
		for step := 0; step < 900; step++ {
			client := x.IntN(3)
			if !y.Under(client) {
				calls[client] = random(x)
				if x.IntN(3) == 0 {
					calls[client] = call.Call{Kind: call.Pwrite, Fd: x.IntN(3), At: x.IntN(300), Data: strings.Repeat(string(rune('a'+step%26)), 1+x.IntN(150))}
				}
				y.Begin(client, calls[client])
			}
			if x.IntN(25) == 0 {
				d.Fuse(1 + x.IntN(80))
			}
			if x.IntN(150) == 0 {
				d.Break(1 + 3 + x.IntN(200))
			}
			r, over, e := y.Step(client)
			if e != api.OK {
				t.Fatal(e)
			}
			if !d.Off() {
				if over {
					if want, _ := w.Do(client, calls[client]); !same(r, want) {
						t.Fatalf("%v: %v, not %v", calls[client], r, want)
					}
				}
				continue
			}
			fails++
			var under []*model.World
			for c := range 3 {
				if c == client || y.Under(c) {
					v := w.Copy()
					v.Do(c, calls[c])
					under = append(under, v)
				}
			}
			after := w.Copy()
			after.Do(client, calls[client])
			for e = api.ErrPower; e == api.ErrPower; {
				keep := make([]bool, 10)
				for i := range keep {
					keep[i] = x.IntN(2) == 0
				}
				d.Boot(keep)
				if x.IntN(2) == 0 {
					d.Fuse(1 + x.IntN(4))
				}
				y, e = boot.Start(d, config())
			}
			if e != api.OK {
				t.Fatal(e)
			}
			d.Fuse(0)
			if rep, e := audit.Check(y.Store()); e != api.OK || rep.Lost != 0 {
				t.Fatal(rep, e)
			}
			list := audit.List(y.Store().Tree())
			w.Lost()
			after.Lost()
			fits := func(v *model.World) bool {
				if !slices.Equal(list, v.Lines()) {
					return false
				}
				for _, p := range files(list) {
					got, there := stored(y, p)
					if want, ok := content(v, p); ok != there || there && got != want && !mixed(got, v, p, under) {
						return false
					}
				}
				return true
			}
			if !fits(w) {
				w = after
				changed++
				if !fits(w) {
					t.Fatalf("%v: %q", calls[client], list)
				}
			}
			// What was written in place is from now on as it is.
			for _, p := range files(list) {
				got, there := stored(y, p)
				if want, _ := content(w, p); there && got != want {
					if r, _ := w.Do(0, opn(p, 2)); r.Err == api.OK {
						w.Do(0, call.Call{Kind: call.Pwrite, Fd: r.N, Data: got})
						w.Do(0, call.Call{Kind: call.Close, Fd: r.N})
					}
				}
			}
			if !w.Same(y) {
				t.Fatal("not the same")
			}
		}
	}
	if fails < 3*rounds || changed == 0 {
		t.Error("the power failed only", fails, "times;", changed, "calls had changed something")
	}
}

// TestFrozen lets lines break until no spare is left: then nothing is changed, and everything reads as before, also behind a start (P3).
func TestFrozen(t *testing.T) {
	x := rand.New(rand.NewPCG(37, 1))
	frozen, started := 0, 0
	for range 4 * rounds {
		d, y := made(t)
		w := world(t, 3)
		for range 200 {
			c, client := random(x), x.IntN(3)
			for range x.IntN(12) {
				d.Break(1 + 3 + x.IntN(d.Lines()))
			}
			was := y.Store().Frozen()
			r, e := y.Do(client, c)
			if e != api.OK {
				t.Fatal(e)
			}
			after := w.Copy()
			want, _ := after.Do(client, c)
			if r.Err != api.ErrFrozen {
				if !same(r, want) {
					t.Fatalf("%v: %v, not %v", c, r, want)
				}
				w = after
				continue
			}
			if !y.Store().Frozen() {
				t.Fatal("ErrFrozen, and not frozen")
			}
			for _, p := range files(w.Lines()) {
				got, there := stored(y, p)
				if v, ok := content(w, p); ok && there && got != v && (was || !mixed(got, w, p, []*model.World{after})) {
					t.Fatalf("%v: %s reads %q, not %q", c, p, got, v)
				}
			}
			frozen++
			break
		}
		if !y.Store().Frozen() {
			continue
		}
		list := audit.List(y.Store().Tree())
		if !slices.Equal(list, w.Lines()) {
			t.Fatalf("%q, not %q", list, w.Lines())
		}
		count, before := d.Count(), []string{}
		for _, p := range files(list) {
			s, _ := stored(y, p)
			before = append(before, s)
		}
		for range 100 {
			c := random(x)
			r, e := y.Do(x.IntN(3), c)
			if e != api.OK || r.Err == api.OK && (c.Kind == call.Mkdir || c.Kind == call.Write || c.Kind == call.Unlink || c.Kind == call.Symlink) {
				t.Fatal(c, r, e)
			}
		}
		d.Boot(nil)
		if d.Count() != count || !slices.Equal(audit.List(y.Store().Tree()), list) {
			t.Fatal("a frozen system is changed")
		}
		z, e := boot.Start(d, config())
		if e == api.ErrSpares {
			continue
		}
		if e != api.OK || z.Store().Frozen() || !slices.Equal(audit.List(z.Store().Tree()), list) {
			t.Fatal(e)
		}
		started++
		for i, p := range files(list) {
			if s, _ := stored(z, p); s != before[i] {
				t.Fatalf("%s reads %q, not %q", p, s, before[i])
			}
		}
	}
	if frozen < rounds || started == 0 {
		t.Error(frozen, "frozen systems,", started, "started again")
	}
}
