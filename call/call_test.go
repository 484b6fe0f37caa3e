package call_test

import (
	"fmt"
	"math"
	"math/rand/v2"
	"reflect"
	"slices"
	"strings"
	"testing"

	"gabion/api"
	"gabion/call"
	"gabion/file"
	"gabion/flat"
	"gabion/hot"
	"gabion/inode"
	"gabion/pm"
	"gabion/space"
	"gabion/store"
	"gabion/tree"
)

const (
	rd, wr, app = 1, 2, 4
	half        = 2048
	most        = 65536 * 64
)

func config() flat.Config {
	return flat.Config{Regions: 2, Lines: 256, Spares: 0, Psi: 65535, Key: 1}
}

func made(t *testing.T, clients int) (*pm.Device, *call.System) {
	t.Helper()
	d, e := pm.New(config().Size())
	if e != api.OK {
		t.Fatal(e)
	}
	hot.Make(d, config())
	p, e := hot.Open(d, 10000)
	if e != api.OK {
		t.Fatal(e)
	}
	s, e := space.New(p)
	if e != api.OK {
		t.Fatal(e)
	}
	if e := store.Format(s, half); e != api.OK {
		t.Fatal(e)
	}
	m, e := store.Mount(s, half)
	if e != api.OK {
		t.Fatal(e)
	}
	y, e := call.New(m, clients)
	if e != api.OK || y == nil {
		t.Fatal(e)
	}
	return d, y
}

// The calls, shortly.
func opn(p string, n int) call.Call  { return call.Call{Kind: call.Open, Path: p, N: n} }
func cls(fd int) call.Call           { return call.Call{Kind: call.Close, Fd: fd} }
func get(fd, n int) call.Call        { return call.Call{Kind: call.Read, Fd: fd, N: n} }
func pget(fd, n, at int) call.Call   { return call.Call{Kind: call.Pread, Fd: fd, N: n, At: at} }
func put(fd int, b string) call.Call { return call.Call{Kind: call.Write, Fd: fd, Data: b} }
func pput(fd int, b string, a int) call.Call {
	return call.Call{Kind: call.Pwrite, Fd: fd, Data: b, At: a}
}
func seek(fd, n, at int) call.Call { return call.Call{Kind: call.Seek, Fd: fd, N: n, At: at} }
func ftrunc(fd, n int) call.Call   { return call.Call{Kind: call.Ftruncate, Fd: fd, N: n} }
func trunc(p string, n int) call.Call {
	return call.Call{Kind: call.Truncate, Path: p, N: n}
}
func on(k call.Kind, p string) call.Call      { return call.Call{Kind: k, Path: p} }
func two(k call.Kind, p, to string) call.Call { return call.Call{Kind: k, Path: p, To: to} }
func fd(k call.Kind, fd int) call.Call        { return call.Call{Kind: k, Fd: fd} }

// zero reports whether a result has nothing but an error.
func zero(r call.Result) bool {
	r.Err = api.OK
	return same(r, call.Result{})
}

func same(a, b call.Result) bool {
	x, y := a.Names, b.Names
	a.Names, b.Names = nil, nil
	return slices.Equal(x, y) && reflect.DeepEqual(a, b)
}

// does makes a call and looks at its error.
func does(t *testing.T, y *call.System, c call.Call, want api.Errno) call.Result {
	t.Helper()
	r, e := y.Do(0, c)
	if e != api.OK || r.Err != want {
		t.Fatalf("%v: %v, %v, not %v", c, e, r.Err, want)
	}
	if want != api.OK && !zero(r) {
		t.Fatalf("%v: %v beside an error", c, r)
	}
	return r
}

// is makes a call and looks at its whole result.
func is(t *testing.T, y *call.System, c call.Call, want call.Result) {
	t.Helper()
	if r, e := y.Do(0, c); e != api.OK || !same(r, want) {
		t.Fatalf("%v: %v, %v, not %v", c, r, e, want)
	}
}

func ok(t *testing.T, y *call.System, l ...call.Call) {
	t.Helper()
	for _, c := range l {
		does(t, y, c, api.OK)
	}
}

// stat looks at a path's facts.
func stat(t *testing.T, y *call.System, p string, n int, k inode.Kind, links, size int) {
	t.Helper()
	is(t, y, on(call.Lstat, p), call.Result{Facts: call.Facts{N: n, Kind: k, Links: links, Size: size}})
}

func TestNewP25_1(t *testing.T) {
	_, y := made(t, 2)
	for _, n := range []int{0, -1, 9, math.MinInt, math.MaxInt} {
		if x, e := call.New(y.Store(), n); x != nil || e != api.ErrArg {
			t.Errorf("New(%d): %v", n, e)
		}
		if x, e := call.New(nil, n); x != nil || e != api.ErrNil {
			t.Errorf("New(%d): %v", n, e)
		}
	}
	if y.Clients() != 2 || y.Store() == nil || len(y.Files(0)) != 0 {
		t.Error("a new System")
	}
	y.Do(1, opn("/a", rd|call.Create))
	y.Do(1, opn("/a", rd))
	if !slices.Equal(y.Files(1), []int{0, 1}) || len(y.Files(0)) != 0 || len(y.Files(2)) != 0 || len(y.Files(-1)) != 0 {
		t.Error("Files")
	}
	var none *call.System
	r, over, e := none.Step(0)
	r2, e2 := none.Do(0, on(call.Mkdir, "/a"))
	if none.Clients() != 0 || none.Store() != nil || none.Waits(0) || none.Under(0) || len(none.Files(0)) != 0 || !zero(r) || !zero(r2) || over || e != api.ErrNil || e2 != api.ErrNil || none.Begin(0, call.Call{}) != api.ErrNil {
		t.Error("a nil System")
	}
}

func TestBeginP25_2(t *testing.T) {
	_, y := made(t, 2)
	for _, c := range []int{-1, 2, 8, math.MinInt, math.MaxInt} {
		r, over, e := y.Step(c)
		r2, e2 := y.Do(c, on(call.Mkdir, "/a"))
		if y.Begin(c, call.Call{}) != api.ErrArg || y.Under(c) || y.Waits(c) || !zero(r) || !zero(r2) || over || e != api.ErrArg || e2 != api.ErrArg {
			t.Errorf("client %d", c)
		}
	}
	if r, over, e := y.Step(0); !zero(r) || over || e != api.ErrState {
		t.Error(e)
	}
	if y.Begin(0, on(call.Mkdir, "/a")) != api.OK || !y.Under(0) || y.Under(1) || y.Waits(0) {
		t.Error("Begin")
	}
	if r, e := y.Do(0, on(call.Mkdir, "/b")); y.Begin(0, call.Call{}) != api.ErrState || !zero(r) || e != api.ErrState {
		t.Error("a second call")
	}
	if y.Store().Tree().Len() != 1 {
		t.Error("Begin does something")
	}
	if r, over, e := y.Step(0); !zero(r) || over || e != api.OK || y.Store().Tree().Len() != 1 {
		t.Error("the first step acquires the lock")
	}
	if r, over, e := y.Step(0); !same(r, call.Result{}) || !over || e != api.OK || y.Under(0) || y.Store().Tree().Len() != 2 {
		t.Error("the second step makes the directory")
	}
}

// steps counts the steps of a call that doesn't wait.
func steps(t *testing.T, y *call.System, c call.Call) (int, call.Result) {
	t.Helper()
	if e := y.Begin(0, c); e != api.OK {
		t.Fatal(e)
	}
	for n := 1; ; n++ {
		r, over, e := y.Step(0)
		if e != api.OK || y.Waits(0) {
			t.Fatal(e)
		}
		if over {
			return n, r
		}
	}
}

func TestStepsP25_2(t *testing.T) {
	_, y := made(t, 1)
	for _, x := range []struct {
		c    call.Call
		n    int
		want api.Errno
	}{
		{opn("/f", wr|rd|call.Create), 2, 0}, {put(0, "abc"), 4, 0}, {put(0, "def"), 4, 0}, {pput(0, strings.Repeat("x", 64), 0), 4, 0}, {pput(0, "y", 100), 4, 0}, {pput(0, "z", 130), 5, 0}, {put(0, ""), 3, 0}, {get(0, 5), 2, 0}, {pget(0, 5, 1), 2, 0},
		{pget(0, 5, -1), 2, api.ErrInval}, {seek(0, 0, 5), 1, 0}, {seek(0, 9, 5), 1, api.ErrInval}, {fd(call.Fstat, 0), 1, 0}, {fd(call.Fsync, 0), 1, 0}, {fd(call.Fsync, 1), 1, api.ErrBad}, {get(1, 5), 1, api.ErrBad},
		{put(1, "x"), 1, api.ErrBad}, {cls(1), 1, api.ErrBad}, {ftrunc(0, 5), 3, 0}, {trunc("/f", 3), 4, 0}, {trunc("/zz", 3), 2, api.ErrNone}, {trunc("", 3), 1, api.ErrNone},
		{opn("/f", wr|call.Trunc), 4, 0}, {opn("/f", rd), 2, 0}, {opn("/f", 0), 1, api.ErrInval}, {opn("", rd), 1, api.ErrNone}, {opn("/zz", rd), 2, api.ErrNone}, {cls(1), 2, 0},
		{on(call.Mkdir, "/d"), 2, 0}, {on(call.Mkdir, "/d"), 2, api.ErrThere}, {on(call.Mkdir, "/"), 1, api.ErrThere}, {on(call.Rmdir, "/.."), 1, api.ErrBusy}, {on(call.Unlink, "."), 1, api.ErrIsDir},
		{two(call.Rename, "/", "/a"), 1, api.ErrBusy}, {two(call.Symlink, "/", "a"), 1, api.ErrThere}, {two(call.Symlink, "/l/", "a"), 1, api.ErrNotDir}, {two(call.Symlink, "/l", "a"), 2, 0},
		{two(call.Link, "/f", "/"), 1, api.ErrThere}, {two(call.Link, "/f", "/x/"), 1, api.ErrNotDir}, {two(call.Link, "/f", "/x"), 2, 0}, {two(call.Rename, "/x", "/y"), 2, 0}, {on(call.Unlink, "/y"), 2, 0},
		{on(call.Readlink, "/l"), 1, 0}, {on(call.Stat, "/f"), 1, 0}, {on(call.Lstat, "/l"), 1, 0}, {on(call.Readdir, "/"), 1, 0}, {on(call.Readdir, "/zz"), 1, api.ErrNone}, {on(call.Rmdir, "/d"), 2, 0},
		{call.Call{Kind: 0}, 1, api.ErrInval}, {call.Call{Kind: call.Kinds}, 1, api.ErrInval}, {call.Call{Kind: -5, Path: "/"}, 1, api.ErrInval},
	} {
		if n, r := steps(t, y, x.c); n != x.n || r.Err != x.want {
			t.Errorf("%v: %d steps, %v, not %d, %v", x.c, n, r.Err, x.n, x.want)
		}
	}
}

func TestExample(t *testing.T) {
	_, y := made(t, 1)
	is(t, y, opn("/a", wr|call.Create), call.Result{})
	is(t, y, put(0, "hi"), call.Result{N: 2})
	stat(t, y, "/a", 2, inode.File, 1, 2)
}

func TestOpenP25_3(t *testing.T) {
	_, y := made(t, 1)
	ok(t, y, on(call.Mkdir, "/d"), opn("/f", wr|call.Create), put(0, "0123456789"), two(call.Symlink, "/lf", "f"), two(call.Symlink, "/ld", "d"), two(call.Symlink, "/ln", "none"), two(call.Symlink, "/loop", "loop"), cls(0))
	for _, n := range []int{0, 8, 16, 32, 4, 5, rd | call.Trunc, 64 | rd, -1, math.MinInt, math.MaxInt, call.Create, rd | app, app | call.Create} {
		does(t, y, opn("", n), api.ErrInval)
	}
	for _, x := range []struct {
		p    string
		n    int
		want api.Errno
	}{
		{"", rd, api.ErrNone}, {strings.Repeat("/", 257), rd, api.ErrLong}, {"/a\x00", rd | call.Create, api.ErrName}, {strings.Repeat("x", 33), rd, api.ErrName},
		{"/none", rd, api.ErrNone}, {"/none/x", rd | call.Create, api.ErrNone}, {"/f/x", rd | call.Create, api.ErrNotDir}, {"/f/", rd, api.ErrNotDir}, {"/f/", rd | call.Create, api.ErrNotDir},
		{"/new/", rd | call.Create, api.ErrIsDir}, {"/new/.", rd | call.Create, api.ErrIsDir}, {"/d", wr, api.ErrIsDir}, {"/d", wr | call.Create, api.ErrIsDir}, {"/d/", wr | call.Trunc, api.ErrIsDir}, {"/ld", wr, api.ErrIsDir}, {"/", wr, api.ErrIsDir},
		{"/d", rd | call.Create | call.Excl, api.ErrThere}, {"/f", rd | call.Create | call.Excl, api.ErrThere}, {"/ln", rd | call.Create | call.Excl, api.ErrThere}, {"/", rd | call.Create | call.Excl, api.ErrThere}, {"/none/..", rd | call.Create | call.Excl, api.ErrThere},
		{"/ln", rd | call.Create, api.ErrNone}, {"/ln", rd, api.ErrNone}, {"/loop", rd, api.ErrLoop}, {"/loop", rd | call.Create, api.ErrLoop}, {"/loop/x", rd | call.Create, api.ErrLoop}, {"/none/..", rd | call.Create, api.ErrNone}, {"/f/", rd | call.Create | call.Excl, api.ErrThere},
	} {
		does(t, y, opn(x.p, x.n), x.want)
	}
	for i, p := range []string{"/f", "f", "/lf", "/d", "/d/.", "/ld", "/", ".", "..", "/d/..", "//f"} {
		n := rd
		if i%2 == 0 {
			n |= call.Excl // without Create it has no meaning
		}
		is(t, y, opn(p, n), call.Result{N: i})
	}
	is(t, y, opn("/d/new", rd|call.Create), call.Result{N: 11})
	is(t, y, opn("/d/new", rd|wr|call.Create|call.Trunc), call.Result{N: 12})
	stat(t, y, "/d/new", 8, inode.File, 1, 0)
	stat(t, y, "/f", 3, inode.File, 1, 10)
	is(t, y, opn("/lf", wr|app|call.Trunc), call.Result{N: 13})
	stat(t, y, "/f", 3, inode.File, 1, 0)
	is(t, y, opn("/excl", wr|call.Create|call.Excl), call.Result{N: 14})
	is(t, y, opn("/excl", wr), call.Result{N: 15})
	before := y.Store().Tree()
	does(t, y, opn("/none", rd), api.ErrFull)
	does(t, y, opn("/more", wr|call.Create), api.ErrFull)
	does(t, y, opn("", rd), api.ErrNone)
	does(t, y, opn("", 0), api.ErrInval)
	if y.Store().Tree().Len() != before.Len() {
		t.Error("a file is made without a descriptor")
	}
	ok(t, y, cls(3), cls(9))
	is(t, y, opn("/f", rd), call.Result{N: 3})
	is(t, y, opn("/f", rd), call.Result{N: 9})
}

func TestReadWriteP25_3(t *testing.T) {
	_, y := made(t, 1)
	ok(t, y, opn("/f", wr|call.Create), opn("/f", rd), opn("/f", rd|wr|app), on(call.Mkdir, "/d"), opn("/d", rd))
	for _, c := range []call.Call{get(0, 1), pget(0, 1, 0), put(1, "x"), pput(1, "x", 0), ftrunc(1, 0), get(9, 1), pget(-1, 1, 0), put(16, "x"), pput(9, "x", 0), ftrunc(9, -1), cls(9), seek(9, 7, 0), fd(call.Fstat, 9), fd(call.Fsync, 9), get(math.MaxInt, 1), put(3, "x")} {
		does(t, y, c, api.ErrBad)
	}
	is(t, y, put(0, "hello"), call.Result{N: 5})
	is(t, y, put(0, " you"), call.Result{N: 4})
	is(t, y, get(1, 3), call.Result{Data: "hel"})
	is(t, y, get(1, 100), call.Result{Data: "lo you"})
	is(t, y, get(1, 100), call.Result{})
	is(t, y, seek(1, 1, 0), call.Result{N: 9})
	is(t, y, pget(1, 3, 6), call.Result{Data: "you"})
	is(t, y, pget(1, 3, 600), call.Result{})
	is(t, y, seek(1, 1, 0), call.Result{N: 9})
	is(t, y, put(2, "!"), call.Result{N: 1})
	is(t, y, seek(2, 1, 0), call.Result{N: 10})
	is(t, y, pput(2, "H", 0), call.Result{N: 1})
	is(t, y, seek(2, 1, 0), call.Result{N: 10})
	is(t, y, seek(2, 0, 0), call.Result{})
	is(t, y, put(2, ""), call.Result{})
	is(t, y, seek(2, 1, 0), call.Result{N: 10})
	is(t, y, seek(2, 0, 2), call.Result{N: 2})
	is(t, y, put(2, "?"), call.Result{N: 1})
	is(t, y, seek(2, 1, 0), call.Result{N: 11})
	is(t, y, pget(2, 99, 0), call.Result{Data: "Hello you!?"})
	is(t, y, seek(0, 0, 20), call.Result{N: 20})
	is(t, y, put(0, ""), call.Result{})
	is(t, y, ftrunc(0, 4), call.Result{})
	is(t, y, put(0, "far"), call.Result{N: 3})
	is(t, y, pget(2, 99, 0), call.Result{Data: "Hell" + strings.Repeat("\x00", 16) + "far"})
	for _, x := range []struct {
		c    call.Call
		want api.Errno
	}{
		{get(1, -1), api.ErrInval}, {pget(1, -1, 0), api.ErrInval}, {pget(1, 1, -1), api.ErrInval}, {pput(0, "x", -1), api.ErrInval}, {pput(0, "", math.MinInt), api.ErrInval}, {pput(0, "x", most), api.ErrLong}, {pput(0, "", most+1), api.ErrLong},
		{ftrunc(0, -1), api.ErrInval}, {ftrunc(0, most+1), api.ErrLong}, {trunc("/f", -1), api.ErrInval}, {trunc("/f", most+1), api.ErrLong}, {trunc("/d", 0), api.ErrIsDir}, {trunc("/d", -1), api.ErrIsDir}, {trunc("/", 0), api.ErrIsDir}, {trunc("/f/", 0), api.ErrNotDir},
		{get(3, 1), api.ErrIsDir}, {get(3, -1), api.ErrIsDir}, {pput(0, strings.Repeat("x", 40000), 0), api.ErrSpace}, {pput(0, "", most), api.OK},
	} {
		does(t, y, x.c, x.want)
	}
	is(t, y, seek(1, 1, 0), call.Result{N: 9})
	is(t, y, trunc("f", 2), call.Result{})
	is(t, y, get(1, 5), call.Result{})
	is(t, y, pget(1, 5, 0), call.Result{Data: "He"})
	is(t, y, fd(call.Fstat, 3), call.Result{Facts: call.Facts{N: 3, Kind: inode.Dir, Links: 2}})
	is(t, y, fd(call.Fstat, 0), call.Result{Facts: call.Facts{N: 2, Kind: inode.File, Links: 1, Size: 2}})
	is(t, y, fd(call.Fsync, 3), call.Result{})
}

func TestSeekP25_3(t *testing.T) {
	_, y := made(t, 1)
	ok(t, y, opn("/f", wr|call.Create), put(0, "0123456789"), on(call.Mkdir, "/d"), opn("/d", rd))
	top := 1 << 62
	for _, x := range []struct {
		n, at int
		want  int
		e     api.Errno
	}{
		{0, 3, 3, 0}, {1, 4, 7, 0}, {1, -7, 0, 0}, {1, -1, 0, api.ErrInval}, {2, 0, 10, 0}, {2, -10, 0, 0}, {2, -11, 0, api.ErrInval}, {0, -1, 0, api.ErrInval}, {0, top, top, 0}, {0, top + 1, 0, api.ErrInval}, {1, 0, top, 0},
		{1, 1, 0, api.ErrInval}, {1, math.MaxInt, 0, api.ErrInval}, {1, math.MinInt, 0, api.ErrInval}, {1, -top, 0, 0}, {2, top - 10, top, 0}, {2, top - 9, 0, api.ErrInval}, {2, math.MaxInt, 0, api.ErrInval}, {2, math.MinInt, 0, api.ErrInval},
		{3, 0, 0, api.ErrInval}, {-1, 0, 0, api.ErrInval}, {math.MaxInt, 0, 0, api.ErrInval}, {1, 0, top, 0},
	} {
		is(t, y, seek(0, x.n, x.at), call.Result{Err: x.e, N: x.want})
	}
	does(t, y, put(0, ""), api.ErrLong)
	is(t, y, seek(1, 2, 5), call.Result{N: 5})
}

func TestDirsP25_3(t *testing.T) {
	_, y := made(t, 1)
	ok(t, y, on(call.Mkdir, "/d"), on(call.Mkdir, "d/e/"), opn("/f", wr|call.Create), two(call.Symlink, "/l", "d"), two(call.Symlink, "/lf", "f"))
	for _, x := range []struct {
		c    call.Call
		want api.Errno
	}{
		{on(call.Mkdir, ""), api.ErrNone}, {on(call.Mkdir, "/"), api.ErrThere}, {on(call.Mkdir, "."), api.ErrThere}, {on(call.Mkdir, "/none/.."), api.ErrThere}, {on(call.Mkdir, "/d"), api.ErrThere}, {on(call.Mkdir, "/l"), api.ErrThere}, {on(call.Mkdir, "/l/"), api.ErrThere},
		{on(call.Mkdir, "/none/x"), api.ErrNone}, {on(call.Mkdir, "/f/x"), api.ErrNotDir}, {on(call.Mkdir, "/d/"+strings.Repeat("x", 33)), api.ErrName}, {on(call.Mkdir, strings.Repeat("x/", 129)), api.ErrLong},
		{on(call.Rmdir, ""), api.ErrNone}, {on(call.Rmdir, "/"), api.ErrBusy}, {on(call.Rmdir, "d/."), api.ErrInside}, {on(call.Rmdir, "d/.."), api.ErrBusy}, {on(call.Rmdir, "/none"), api.ErrNone}, {on(call.Rmdir, "/none/x"), api.ErrNone}, {on(call.Rmdir, "/f"), api.ErrNotDir},
		{on(call.Rmdir, "/f/x"), api.ErrNotDir}, {on(call.Rmdir, "/l"), api.ErrNotDir}, {on(call.Rmdir, "/l/"), api.ErrNotDir}, {on(call.Rmdir, "/d"), api.ErrInside},
		{on(call.Unlink, ""), api.ErrNone}, {on(call.Unlink, "/"), api.ErrIsDir}, {on(call.Unlink, "/d/.."), api.ErrIsDir}, {on(call.Unlink, "/d"), api.ErrIsDir}, {on(call.Unlink, "/d/"), api.ErrIsDir}, {on(call.Unlink, "/f/"), api.ErrNotDir}, {on(call.Unlink, "/l/"), api.ErrNotDir},
		{on(call.Unlink, "/none/"), api.ErrNone}, {on(call.Unlink, "/none/x"), api.ErrNone}, {on(call.Unlink, "/f/x"), api.ErrNotDir},
		{on(call.Readdir, "/f"), api.ErrNotDir}, {on(call.Readdir, "/lf"), api.ErrNotDir}, {on(call.Readdir, "/none"), api.ErrNone}, {on(call.Readdir, ""), api.ErrNone},
		{on(call.Readlink, "/f"), api.ErrInval}, {on(call.Readlink, "/l/"), api.ErrInval}, {on(call.Readlink, "/"), api.ErrInval}, {on(call.Readlink, "/none"), api.ErrNone}, {on(call.Readlink, ""), api.ErrNone},
		{on(call.Stat, "/none"), api.ErrNone}, {on(call.Lstat, "/f/"), api.ErrNotDir}, {on(call.Stat, strings.Repeat("x", 300)), api.ErrLong},
	} {
		does(t, y, x.c, x.want)
	}
	is(t, y, on(call.Readdir, "/"), call.Result{Names: []string{"d", "f", "l", "lf"}})
	is(t, y, on(call.Readdir, "/l"), call.Result{Names: []string{"e"}})
	is(t, y, on(call.Readdir, "/l/e/"), call.Result{})
	is(t, y, on(call.Readlink, "/l"), call.Result{Data: "d"})
	dir := call.Result{Facts: call.Facts{N: 2, Kind: inode.Dir, Links: 3}}
	is(t, y, on(call.Stat, "/l"), dir)
	is(t, y, on(call.Lstat, "/l/"), dir)
	is(t, y, on(call.Stat, "d"), dir)
	stat(t, y, "/l", 5, inode.Link, 1, 1)
	stat(t, y, "/", 1, inode.Dir, 3, 0)
	ok(t, y, on(call.Rmdir, "/l/e/"), on(call.Rmdir, "/d"), on(call.Unlink, "/l"), on(call.Unlink, "lf"))
	is(t, y, on(call.Readdir, "/"), call.Result{Names: []string{"f"}})
}

func TestLinksP25_3(t *testing.T) {
	_, y := made(t, 1)
	ok(t, y, on(call.Mkdir, "/d"), opn("/f", wr|call.Create), two(call.Symlink, "/l", "f"), two(call.Symlink, "/ln", "none"))
	for _, x := range []struct {
		c    call.Call
		want api.Errno
	}{
		{two(call.Link, "", strings.Repeat("x", 300)), api.ErrNone}, {two(call.Link, "/f", ""), api.ErrNone}, {two(call.Link, "/none", strings.Repeat("x", 300)), api.ErrLong}, {two(call.Link, "/none", "/"), api.ErrNone}, {two(call.Link, "/f/", "/"), api.ErrNotDir},
		{two(call.Link, "/f", "/"), api.ErrThere}, {two(call.Link, "/f", "/none/.."), api.ErrThere}, {two(call.Link, "/f", "/none/x/"), api.ErrNotDir}, {two(call.Link, "/none", "/x/"), api.ErrNone}, {two(call.Link, "/d", "/x/"), api.ErrNotDir}, {two(call.Link, "/d", "/"), api.ErrThere},
		{two(call.Link, "/d", "/x"), api.ErrIsDir}, {two(call.Link, "/f", "/l"), api.ErrThere}, {two(call.Link, "/f", "/none/x"), api.ErrNone}, {two(call.Link, "/d", "/none/x"), api.ErrNone}, {two(call.Link, "/f", "/f/x"), api.ErrNotDir}, {two(call.Link, "/ln/", "/x"), api.ErrNone},
		{two(call.Symlink, "", "a"), api.ErrNone}, {two(call.Symlink, "/", "a"), api.ErrThere}, {two(call.Symlink, "/x/", "a"), api.ErrNotDir}, {two(call.Symlink, "/none/x", "a"), api.ErrNone}, {two(call.Symlink, "/f", "a"), api.ErrThere}, {two(call.Symlink, "/f", ""), api.ErrThere},
		{two(call.Symlink, "/x", ""), api.ErrInval}, {two(call.Symlink, "/x", "a\x00"), api.ErrInval}, {two(call.Symlink, "/x", strings.Repeat("x", 257)), api.ErrInval},
		{two(call.Rename, "", "/"), api.ErrNone}, {two(call.Rename, "/", ""), api.ErrNone}, {two(call.Rename, "/", "/x"), api.ErrBusy}, {two(call.Rename, "/f", "/"), api.ErrBusy}, {two(call.Rename, "/none/..", "/x"), api.ErrBusy}, {two(call.Rename, "/none", "/d/.."), api.ErrBusy},
		{two(call.Rename, "/none/x", "/f/x"), api.ErrNone}, {two(call.Rename, "/f/x", "/none/x"), api.ErrNotDir}, {two(call.Rename, "/none", "/none/x"), api.ErrNone}, {two(call.Rename, "/f", "/none/x"), api.ErrNone}, {two(call.Rename, "/f/", "/x"), api.ErrNotDir}, {two(call.Rename, "/f", "/x/"), api.ErrNotDir},
		{two(call.Rename, "/none/", "/x"), api.ErrNone}, {two(call.Rename, "/none", "/x/"), api.ErrNone}, {two(call.Rename, "/l/", "/x"), api.ErrNotDir}, {two(call.Rename, "/d", "/d/x"), api.ErrInside}, {two(call.Rename, "/d", "/f"), api.ErrNotDir}, {two(call.Rename, "/f", "/d"), api.ErrIsDir}, {two(call.Rename, "/f", "/d/"), api.ErrNotDir},
	} {
		does(t, y, x.c, x.want)
	}
	ok(t, y, two(call.Link, "/f", "/d/f2"), two(call.Link, "/l", "/l2"), two(call.Symlink, "/odd", "a//b/../"+strings.Repeat("x", 40)), two(call.Rename, "/d/", "/e/"), two(call.Rename, "e/f2", "g"))
	stat(t, y, "/g", 3, inode.File, 2, 0)
	stat(t, y, "/l2", 4, inode.Link, 2, 1)
	stat(t, y, "/e", 2, inode.Dir, 2, 0)
	does(t, y, on(call.Stat, "/odd"), api.ErrName)
	is(t, y, on(call.Readdir, "/"), call.Result{Names: []string{"e", "f", "g", "l", "l2", "ln", "odd"}})
	does(t, y, two(call.Link, "/ln", "/"), api.ErrThere)
	does(t, y, two(call.Link, "/ln", "/x/"), api.ErrNotDir)
	is(t, y, trunc("/l", 70), call.Result{})
	stat(t, y, "/g", 3, inode.File, 2, 70)
	ok(t, y, on(call.Mkdir, "/a"), on(call.Mkdir, "/a/b"), on(call.Mkdir, "/c"), two(call.Rename, "a/b", "c"))
	stat(t, y, "/c", 8, inode.Dir, 2, 0)
}

// TestUnlinkedP25_3: a file that has no name any more is there as long as it is open.
func TestUnlinkedP25_3(t *testing.T) {
	_, y := made(t, 2)
	_, free := y.Store().Blocks()
	ok(t, y, opn("/f", wr|rd|call.Create), put(0, "hello"), on(call.Unlink, "/f"))
	y.Do(1, opn("/f", rd))
	is(t, y, pget(0, 9, 0), call.Result{Data: "hello"})
	is(t, y, put(0, "!"), call.Result{N: 1})
	is(t, y, fd(call.Fstat, 0), call.Result{Facts: call.Facts{N: 2, Kind: inode.File, Size: 6}})
	if _, f := y.Store().Blocks(); f != free-1 {
		t.Error("its blocks are free")
	}
	ok(t, y, cls(0))
	if _, f := y.Store().Blocks(); f != free || y.Store().Tree().Len() != 1 {
		t.Error("its blocks are not free")
	}
	ok(t, y, on(call.Mkdir, "/d"), opn("/d", rd), on(call.Rmdir, "/d"))
	is(t, y, fd(call.Fstat, 0), call.Result{Facts: call.Facts{N: 2, Kind: inode.Dir}})
	ok(t, y, cls(0))
	if y.Store().Tree().Len() != 1 {
		t.Error("a removed directory exists")
	}
}

// step performs a step of a client.
func step(t *testing.T, y *call.System, client int, waits, over bool) call.Result {
	t.Helper()
	r, o, e := y.Step(client)
	if e != api.OK || o != over || y.Waits(client) != waits {
		t.Fatalf("client %d: over %v, waits %v, %v, %v", client, o, y.Waits(client), r, e)
	}
	return r
}

func TestLocksP25_2(t *testing.T) {
	_, y := made(t, 3)
	ok(t, y, opn("/f", wr|rd|call.Create), opn("/g", wr|call.Create))
	y.Do(1, opn("/f", rd|wr|app))
	y.Begin(0, put(0, "abc"))
	y.Begin(1, get(0, 5))
	step(t, y, 0, false, false)
	step(t, y, 1, true, false)
	step(t, y, 1, true, false)
	// What needs no lock, or another one, goes on.
	if r, e := y.Do(2, on(call.Stat, "/f")); e != api.OK || r.Facts.Size != 0 {
		t.Error(r, e)
	}
	if r, e := y.Do(2, on(call.Mkdir, "/d")); e != api.OK || r.Err != api.OK {
		t.Error(r, e)
	}
	if r, e := y.Do(2, trunc("/f", 0)); e != api.ErrBusy || !zero(r) || y.Under(2) || y.Waits(2) {
		t.Error(r, e)
	}
	if r, e := y.Do(2, trunc("/g", 7)); e != api.OK || r.Err != api.OK {
		t.Error("locks of an abandoned call", r, e)
	}
	step(t, y, 0, false, false)
	step(t, y, 0, false, false)
	if r, e := y.Do(2, on(call.Stat, "/f")); e != api.OK || r.Facts.Size != 0 {
		t.Error(r, e)
	}
	step(t, y, 1, true, false)
	if r := step(t, y, 0, false, true); r.N != 3 {
		t.Error(r)
	}
	if !y.Waits(1) {
		t.Error("its last step got no lock")
	}
	step(t, y, 1, false, false)
	if r := step(t, y, 1, false, true); r.Data != "abc" {
		t.Error(r)
	}
	// The names' lock.
	y.Begin(0, opn("/f", wr|call.Trunc))
	step(t, y, 0, false, false)
	y.Begin(1, on(call.Unlink, "/f"))
	step(t, y, 1, true, false)
	y.Begin(2, cls(0))
	if r := step(t, y, 2, false, true); r.Err != api.ErrBad {
		t.Error(r)
	}
	if _, e := y.Do(2, on(call.Mkdir, "/x")); e != api.ErrBusy {
		t.Error(e)
	}
	if r, e := y.Do(2, on(call.Mkdir, "/")); e != api.OK || r.Err != api.ErrThere {
		t.Error("an error of a path alone needs no lock", r, e)
	}
	if r, e := y.Do(2, on(call.Readdir, "/")); e != api.OK || len(r.Names) != 3 {
		t.Error(r, e)
	}
	step(t, y, 0, false, false)
	step(t, y, 0, false, false)
	if r := step(t, y, 0, false, true); r.N != 2 {
		t.Error(r)
	}
	step(t, y, 1, false, false)
	step(t, y, 1, false, true)
}

// TestAppendP25_4: two clients append to one file.
func TestAppendP25_4(t *testing.T) {
	_, y := made(t, 2)
	for c := range 2 {
		y.Do(c, opn("/f", wr|app|call.Create))
		y.Begin(c, put(0, strings.Repeat(string(rune('a'+c)), 100)))
	}
	for i := 0; y.Under(0) || y.Under(1); i++ {
		if y.Under(i % 2) {
			y.Step(i % 2)
		}
	}
	got, e := file.Read(y.Store(), 2, 0, 999)
	if got != strings.Repeat("a", 100)+strings.Repeat("b", 100) || e != api.OK {
		t.Errorf("%q, %v", got, e)
	}
}

func TestFrozenP25_3(t *testing.T) {
	d, y := made(t, 1)
	ok(t, y, opn("/f", wr|rd|call.Create), put(0, "hello"), on(call.Mkdir, "/d"))
	for i := range d.Lines() {
		d.Break(i)
	}
	before, _ := y.Store().Tree().Parts()
	for _, c := range []call.Call{on(call.Mkdir, "/x"), put(0, "x"), pput(0, "x", 0), ftrunc(0, 1), trunc("/f", 9), on(call.Rmdir, "/d"), on(call.Unlink, "/f"), two(call.Link, "/f", "/g"), two(call.Rename, "/f", "/g"), two(call.Symlink, "/s", "f"), opn("/new", wr|call.Create), opn("/f", wr|call.Trunc)} {
		does(t, y, c, api.ErrFrozen)
	}
	is(t, y, get(0, 9), call.Result{})
	is(t, y, pget(0, 9, 0), call.Result{Data: "hello"})
	stat(t, y, "/f", 2, inode.File, 1, 5)
	is(t, y, on(call.Readdir, "/"), call.Result{Names: []string{"d", "f"}})
	is(t, y, opn("/f", wr|rd|call.Create), call.Result{N: 1})
	ok(t, y, cls(0), cls(1), on(call.Stat, "/f"))
	after, _ := y.Store().Tree().Parts()
	if !reflect.DeepEqual(before, after) {
		t.Error("something is changed")
	}
}

// TestOrderP25_4 interleaves calls, and then makes them one by one, in the order in which they ended.
func TestOrderP25_4(t *testing.T) {
	x := rand.New(rand.NewPCG(26, 1))
	for round := range 60 {
		_, y := made(t, 3)
		_, z := made(t, 3)
		pending := make([]call.Call, 3)
		for range 400 {
			c := x.IntN(3)
			if !y.Under(c) {
				pending[c] = random(x)
				if e := y.Begin(c, pending[c]); e != api.OK {
					t.Fatal(e)
				}
			}
			r, over, e := y.Step(c)
			if e != api.OK {
				t.Fatal(e)
			}
			if !over {
				continue
			}
			want, e := z.Do(c, pending[c])
			if e != api.OK || !same(r, want) {
				t.Fatalf("round %d: %v: %v, not %v, %v", round, pending[c], r, want, e)
			}
			if !sameNames(y.Store().Tree(), z.Store().Tree()) {
				t.Fatalf("round %d: %v: another tree", round, pending[c])
			}
		}
		// Nobody is left waiting, and then all bytes agree.
		for i := 0; y.Under(0) || y.Under(1) || y.Under(2); i++ {
			if i > 300 {
				t.Fatal("somebody waits forever")
			}
			if c := i % 3; y.Under(c) {
				r, over, _ := y.Step(c)
				if over {
					if want, _ := z.Do(c, pending[c]); !same(r, want) {
						t.Fatalf("%v: %v, not %v", pending[c], r, want)
					}
				}
			}
		}
		for _, n := range y.Store().Tree().All() {
			a, e1 := file.Read(y.Store(), n, 0, most)
			b, e2 := file.Read(z.Store(), n, 0, most)
			if a != b || e1 != e2 {
				t.Fatalf("the bytes of inode %d", n)
			}
		}
		for c := range 3 {
			if !slices.Equal(y.Files(c), z.Files(c)) {
				t.Fatal("descriptors")
			}
		}
	}
}

func sameNames(a, b *tree.Tree) bool {
	i, n := a.Parts()
	j, m := b.Parts()
	return slices.Equal(n, m) && slices.EqualFunc(i, j, func(x, y tree.Item) bool {
		return x.N == y.N && x.Inode.Kind == y.Inode.Kind && x.Inode.Links == y.Inode.Links && x.Inode.Size == y.Inode.Size && x.Inode.Target == y.Inode.Target
	})
}

// random is a call on few names.
func random(x *rand.Rand) call.Call {
	name := func() string {
		return []string{"/a", "/b", "/d", "/d/a", "/d/b", "/d/e", "/l", "/l/a", "/", "d/..", "/d/", "/a/"}[x.IntN(12)]
	}
	data := strings.Repeat(fmt.Sprint(x.IntN(10)), x.IntN(200))
	return call.Call{
		Kind: call.Kind(1 + x.IntN(int(call.Kinds)-1)),
		Path: name(), To: name(), Fd: x.IntN(4),
		N:    []int{1, 2, 3, 6, 9, 10, 11, 14, 34, 43, 42, 26, 300, -1}[x.IntN(14)],
		At:   x.IntN(300) - 5,
		Data: data,
	}
}
