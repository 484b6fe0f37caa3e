package desc_test

import (
	"math"
	"math/rand/v2"
	"slices"
	"testing"

	"gabion/api"
	"gabion/desc"
)

func tables(t *testing.T, clients int) *desc.Tables {
	t.Helper()
	x, e := desc.New(clients)
	if e != api.OK {
		t.Fatal(e)
	}
	return x
}

var nobody = []int{-1, 2, 8, math.MinInt, math.MaxInt}

func TestNewP23_1(t *testing.T) {
	if desc.Read != 1 || desc.Write != 2 || desc.Append != 4 {
		t.Error("flags")
	}
	for _, n := range []int{0, -1, 9, math.MinInt, math.MaxInt} {
		if x, e := desc.New(n); x != nil || e != api.ErrArg {
			t.Errorf("New(%d): %v", n, e)
		}
	}
	for _, n := range []int{1, 8} {
		x := tables(t, n)
		if x.Clients() != n || len(x.List(n-1)) != 0 || x.Count(0) != 0 {
			t.Errorf("New(%d)", n)
		}
	}
	var none *desc.Tables
	fd, e1 := none.Add(0, 1, 1)
	o, e2 := none.Get(-1, 0)
	n, e3 := none.Close(0, 0)
	if fd != 0 || n != 0 || o != (desc.Open{}) || e1 != api.ErrNil || e2 != api.ErrNil || e3 != api.ErrNil || none.Seek(0, 0, -1) != api.ErrNil || none.Clients() != 0 || len(none.List(0)) != 0 || none.Count(0) != 0 {
		t.Error("nil tables")
	}
}

func TestAddP23_2(t *testing.T) {
	x := tables(t, 2)
	for _, c := range nobody {
		fd, e1 := x.Add(c, 1, 0)
		o, e2 := x.Get(c, -1)
		n, e3 := x.Close(c, 0)
		if fd != 0 || n != 0 || o != (desc.Open{}) || e1 != api.ErrArg || e2 != api.ErrArg || e3 != api.ErrArg || x.Seek(c, 0, -1) != api.ErrArg || len(x.List(c)) != 0 {
			t.Errorf("client %d", c)
		}
	}
	for _, flags := range []int{0, -1, 8, 9, math.MinInt, math.MaxInt} {
		if fd, e := x.Add(0, 1, flags); fd != 0 || e != api.ErrArg {
			t.Errorf("flags %d: %v", flags, e)
		}
	}
	for i := range 16 {
		if fd, e := x.Add(0, 100-i, 1+i%7); fd != i || e != api.OK {
			t.Fatalf("%d, %v", fd, e)
		}
	}
	if fd, e := x.Add(0, 1, 1); fd != 0 || e != api.ErrFull {
		t.Error(e)
	}
	if fd, e := x.Add(0, 1, 8); fd != 0 || e != api.ErrArg {
		t.Error(e)
	}
	if fd, e := x.Add(1, math.MinInt, 7); fd != 0 || e != api.OK {
		t.Error(fd, e)
	}
	if o, e := x.Get(1, 0); o != (desc.Open{N: math.MinInt, Flags: 7}) || e != api.OK {
		t.Error(o, e)
	}
	for i := range 16 {
		if o, e := x.Get(0, i); o != (desc.Open{N: 100 - i, Flags: 1 + i%7}) || e != api.OK {
			t.Error(o, e)
		}
	}
	for _, fd := range []int{9, 3, 7} {
		if n, e := x.Close(0, fd); n != 100-fd || e != api.OK {
			t.Error(n, e)
		}
	}
	for _, fd := range []int{3, 7, 9} {
		if got, e := x.Add(0, fd, 2); got != fd || e != api.OK {
			t.Error(got, e)
		}
	}
	if n, e := x.Close(1, 0); n != math.MinInt || e != api.OK || len(x.List(0)) != 16 {
		t.Error(n, e)
	}
}

func TestSeekP23_2(t *testing.T) {
	x := tables(t, 2)
	x.Add(0, 5, 3)
	for _, fd := range []int{-1, 1, 15, 16, math.MinInt, math.MaxInt} {
		o, e1 := x.Get(0, fd)
		n, e2 := x.Close(0, fd)
		if o != (desc.Open{}) || n != 0 || e1 != api.ErrBad || e2 != api.ErrBad || x.Seek(0, fd, -1) != api.ErrBad {
			t.Errorf("descriptor %d", fd)
		}
	}
	if x.Seek(0, 0, -1) != api.ErrInval || x.Seek(0, 0, math.MinInt) != api.ErrInval || x.Seek(1, 0, 1) != api.ErrBad {
		t.Error("Seek")
	}
	for _, at := range []int{7, math.MaxInt, 0, 9} {
		if x.Seek(0, 0, at) != api.OK {
			t.Error(at)
		}
		if o, _ := x.Get(0, 0); o != (desc.Open{N: 5, Flags: 3, At: at}) {
			t.Error(o)
		}
	}
	x.Close(0, 0)
	x.Add(0, 6, 1)
	if o, _ := x.Get(0, 0); o != (desc.Open{N: 6, Flags: 1}) {
		t.Error("At is 0 at first", o)
	}
}

// TestRandomP23_3 keeps the tables as a map.
func TestRandomP23_3(t *testing.T) {
	r := rand.New(rand.NewPCG(24, 1))
	x := tables(t, 3)
	type key struct{ client, fd int }
	open := map[key]int{}
	for range 3000 {
		c, n := r.IntN(3), r.IntN(5)
		if r.IntN(5) < 3 {
			lowest := 0
			for open[key{c, lowest}] != 0 {
				lowest++
			}
			fd, e := x.Add(c, n, 1)
			if lowest == 16 {
				if e != api.ErrFull {
					t.Fatal(e)
				}
			} else if fd != lowest || e != api.OK {
				t.Fatalf("%d, %v, not %d", fd, e, lowest)
			} else {
				open[key{c, fd}] = n + 1
			}
		} else {
			fd := r.IntN(16)
			got, e := x.Close(c, fd)
			if want := open[key{c, fd}]; want == 0 && e != api.ErrBad || want > 0 && (got != want-1 || e != api.OK) {
				t.Fatal(got, e)
			}
			delete(open, key{c, fd})
		}
		count := 0
		var list []int
		for fd := range 16 {
			if open[key{c, fd}] != 0 {
				list = append(list, fd)
			}
		}
		for _, m := range open {
			if m == n+1 {
				count++
			}
		}
		if x.Count(n) != count || !slices.Equal(x.List(c), list) {
			t.Fatalf("Count(%d) is %d, not %d; %v, not %v", n, x.Count(n), count, x.List(c), list)
		}
	}
}
