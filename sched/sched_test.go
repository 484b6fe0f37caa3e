package sched_test

import (
	"fmt"
	"math"
	"math/rand/v2"
	"reflect"
	"slices"
	"strings"
	"testing"

	"gabion/api"
	"gabion/call"
	"gabion/flat"
	"gabion/hot"
	"gabion/pm"
	"gabion/sched"
	"gabion/space"
	"gabion/store"
)

func system(t *testing.T, clients int) *call.System {
	t.Helper()
	c := flat.Config{Regions: 2, Lines: 256, Spares: 0, Psi: 65535, Key: 1}
	d, _ := pm.New(c.Size())
	hot.Make(d, c)
	p, _ := hot.Open(d, 10000)
	s, _ := space.New(p)
	store.Format(s, 2048)
	m, e := store.Mount(s, 2048)
	if e != api.OK {
		t.Fatal(e)
	}
	y, e := call.New(m, clients)
	if e != api.OK {
		t.Fatal(e)
	}
	return y
}

func world(t *testing.T, y *call.System, todo ...[]call.Call) *sched.World {
	t.Helper()
	w, e := sched.New(y, todo)
	if e != api.OK || w == nil {
		t.Fatal(e)
	}
	return w
}

func mkdir(p string) call.Call { return call.Call{Kind: call.Mkdir, Path: p} }

func open(p string) call.Call { return call.Call{Kind: call.Open, Path: p, N: 3 | call.Create} }

func write(n int) call.Call {
	return call.Call{Kind: call.Write, Data: strings.Repeat("x", n)}
}

func TestNewP26_1(t *testing.T) {
	y := system(t, 2)
	if w, e := sched.New(nil, make([][]call.Call, 9)); w != nil || e != api.ErrNil {
		t.Error(e)
	}
	if w, e := sched.New(y, make([][]call.Call, 3)); w != nil || e != api.ErrArg {
		t.Error(e)
	}
	y.Begin(1, mkdir("/a"))
	if w, e := sched.New(y, make([][]call.Call, 2)); w != nil || e != api.ErrArg {
		t.Error(e)
	}
	w := world(t, y, []call.Call{mkdir("/b"), mkdir("/c")})
	for c, want := range map[int]int{-1: 0, 0: 2, 1: 0, 2: 0, math.MinInt: 0, math.MaxInt: 0} {
		if w.Left(c) != want || w.Steps(c) != 0 {
			t.Errorf("client %d: %d left", c, w.Left(c))
		}
	}
	var none *sched.World
	event, over, e := none.Pick(0)
	l, e2 := none.Drain(5)
	if !reflect.DeepEqual(event, sched.Event{}) || over || e != api.ErrNil || len(l) != 0 || e2 != api.ErrNil || none.Left(0) != 0 || none.Steps(0) != 0 {
		t.Error("a nil World")
	}
	world(t, y)
}

func TestPickP26_2(t *testing.T) {
	y := system(t, 3)
	todo := [][]call.Call{{mkdir("/a"), mkdir("/a"), {Kind: call.Stat, Path: "/a"}}, nil}
	w := world(t, y, todo...)
	todo[0][0] = mkdir("/changed")
	for _, c := range []int{-1, 2, 3, math.MinInt, math.MaxInt} {
		if event, over, e := w.Pick(c); !reflect.DeepEqual(event, sched.Event{}) || over || e != api.ErrArg {
			t.Errorf("client %d: %v", c, e)
		}
	}
	if event, over, e := w.Pick(1); !reflect.DeepEqual(event, sched.Event{}) || over || e != api.ErrNone {
		t.Error(e)
	}
	var got []sched.Event
	var steps []int
	for w.Left(0) > 0 {
		left := w.Left(0)
		event, over, e := w.Pick(0)
		if e != api.OK || over != (w.Left(0) == left-1) || !over && !reflect.DeepEqual(event, sched.Event{}) {
			t.Fatal(event, over, e)
		}
		steps = append(steps, w.Steps(0))
		if over {
			got = append(got, event)
		}
	}
	if _, _, e := w.Pick(0); e != api.ErrNone || w.Steps(0) != 1 {
		t.Error(e)
	}
	if !slices.Equal(steps, []int{1, 2, 1, 2, 1}) {
		t.Error(steps)
	}
	want := []sched.Event{
		{Call: mkdir("/a")}, {At: 1, Call: mkdir("/a"), Result: call.Result{Err: api.ErrThere}},
		{At: 2, Call: call.Call{Kind: call.Stat, Path: "/a"}, Result: call.Result{Facts: call.Facts{N: 2, Kind: 2, Links: 2}}},
	}
	if !reflect.DeepEqual(got, want) {
		t.Errorf("%v, not %v", got, want)
	}
}

func TestStepsP26_2(t *testing.T) {
	y := system(t, 2)
	w := world(t, y, []call.Call{mkdir("/a")}, []call.Call{mkdir("/b"), {Kind: call.Stat, Path: "/"}})
	pick := func(c int, want bool, steps int) {
		t.Helper()
		_, over, e := w.Pick(c)
		if over != want || e != api.OK || w.Steps(c) != steps {
			t.Fatalf("client %d: %v, %v, %d steps", c, over, e, w.Steps(c))
		}
	}
	pick(0, false, 1)
	pick(1, false, 0)
	pick(1, false, 0)
	pick(0, true, 2)
	pick(1, false, 1)
	pick(1, true, 2)
	pick(1, true, 1)
}

func TestDrainP26_3(t *testing.T) {
	y := system(t, 2)
	w := world(t, y, []call.Call{mkdir("/a"), {Kind: call.Stat, Path: "/b"}}, []call.Call{mkdir("/b")})
	for _, n := range []int{0, -1, math.MinInt} {
		if l, e := w.Drain(n); len(l) != 0 || e != api.ErrBusy || y.Under(0) {
			t.Errorf("%d rounds: %v, %v", n, l, e)
		}
	}
	l, e := w.Drain(2)
	if len(l) != 1 || l[0].Client != 0 || e != api.ErrBusy || w.Left(0) != 1 || w.Left(1) != 1 {
		t.Error(l, e)
	}
	l, e = w.Drain(1)
	if len(l) != 2 || l[0].Client != 0 || l[0].Result.Err != api.ErrNone || l[1].Client != 1 || e != api.OK {
		t.Error(l, e)
	}
	for _, n := range []int{0, -1, 5} {
		if l, e := w.Drain(n); len(l) != 0 || e != api.OK {
			t.Error(l, e)
		}
	}
	// A lock that is held outside: nobody can go on, and Drain ends all the same.
	y.Begin(1, mkdir("/x"))
	y.Step(1)
	w = world(t, y, []call.Call{{Kind: call.Stat, Path: "/"}, mkdir("/y")})
	l, e = w.Drain(math.MaxInt)
	if len(l) != 1 || e != api.ErrBusy || w.Left(0) != 1 || w.Steps(0) != 0 {
		t.Error(l, e)
	}
}

func TestBoundP26_4(t *testing.T) {
	for n, want := range map[int]int{0: 8, 1: 9, 63: 9, 64: 9, 65: 10, 128: 10, 6400: 108} {
		if got := sched.Bound(write(n)); got != want {
			t.Errorf("%d bytes: %d", n, got)
		}
	}
	if got := sched.Bound(call.Call{Kind: call.Rename, Path: strings.Repeat("x", 100), To: "y", N: 1000}); got != 8 {
		t.Error(got)
	}
}

// TestRandomP26_4 picks clients at random, and drains the rest.
func TestRandomP26_4(t *testing.T) {
	x := rand.New(rand.NewPCG(27, 1))
	most := 0
	for range 60 {
		n := 1 + x.IntN(4)
		y := system(t, n)
		todo := make([][]call.Call, n)
		bounds := 0
		for c := range todo {
			todo[c] = []call.Call{open("/a"), {Kind: call.Open, Path: "/a", N: 3 | 4 | call.Trunc*x.IntN(2)}}
			for range x.IntN(12) {
				k := call.Kind(1 + x.IntN(int(call.Kinds)-1))
				todo[c] = append(todo[c], call.Call{
					Kind: k, Path: fmt.Sprint("/", x.IntN(3)), To: fmt.Sprint("/", x.IntN(3)), Fd: x.IntN(2), N: x.IntN(64), At: x.IntN(100),
					Data: strings.Repeat("d", x.IntN(300)),
				})
			}
			for _, d := range todo[c] {
				bounds += sched.Bound(d)
			}
		}
		w := world(t, y, todo...)
		seen := make([]int, n)
		check := func(c int) {
			t.Helper()
			if w.Left(c) < len(todo[c]) || w.Steps(c) > 0 {
				at := min(len(todo[c])-w.Left(c), len(todo[c])-1)
				if bound := sched.Bound(todo[c][at]); y.Under(c) && w.Steps(c) >= bound {
					t.Fatalf("%v takes more than %d steps", todo[c][at], bound)
				}
			}
			most = max(most, w.Steps(c))
		}
		for range x.IntN(200) {
			c := x.IntN(n)
			event, over, e := w.Pick(c)
			if e != api.OK && e != api.ErrNone {
				t.Fatal(e)
			}
			check(c)
			if over {
				if event.Client != c || event.At != seen[c] || !reflect.DeepEqual(event.Call, todo[c][seen[c]]) || w.Steps(c) > sched.Bound(event.Call) {
					t.Fatalf("%v", event)
				}
				seen[c]++
			}
		}
		l, e := w.Drain(n*bounds + 1)
		if e != api.OK {
			t.Fatal(e)
		}
		for _, event := range l {
			if event.At != seen[event.Client] {
				t.Fatal("the order of events")
			}
			seen[event.Client]++
		}
		for c := range n {
			if w.Left(c) != 0 || y.Under(c) || seen[c] != len(todo[c]) {
				t.Fatal("a call is left")
			}
		}
	}
	if most < 7 {
		t.Error("no call takes many steps", most)
	}
}
