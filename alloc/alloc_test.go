package alloc_test

import (
	"math"
	"math/rand/v2"
	"slices"
	"testing"

	"gabion/alloc"
	"gabion/api"
)

func set(t *testing.T, n int) alloc.Set {
	t.Helper()
	s, e := alloc.New(n)
	if e != api.OK {
		t.Fatal(e)
	}
	return s
}

func ext(at, n int) alloc.Extent {
	return alloc.Extent{At: at, Len: n}
}

func TestNewP14_1(t *testing.T) {
	for _, n := range []int{-1, 65537, math.MinInt, math.MaxInt} {
		if s, e := alloc.New(n); e != api.ErrArg || s.Size() != 0 || s.Free() != 0 || len(s.List()) != 0 {
			t.Errorf("New(%d): %v", n, e)
		}
	}
	for _, n := range []int{0, 1, 10, 65536} {
		s := set(t, n)
		var want []alloc.Extent
		if n > 0 {
			want = []alloc.Extent{ext(0, n)}
		}
		if s.Size() != n || s.Free() != n || !slices.Equal(s.List(), want) || s.Has(0) != (n > 0) || s.Has(n-1) != (n > 0) || s.Has(n) || s.Has(-1) || s.Has(math.MaxInt) || s.Has(math.MinInt) {
			t.Errorf("New(%d): %v", n, s.List())
		}
	}
	var zero alloc.Set
	if _, e := zero.Use(ext(0, 1)); e != api.ErrArg || zero.Size() != 0 || zero.Free() != 0 || zero.Has(0) {
		t.Error(e)
	}
	if _, _, e := zero.Take(1); e != api.ErrSpace {
		t.Error(e)
	}
}

func TestExtentsP14_2(t *testing.T) {
	s := set(t, 10)
	for _, e := range []alloc.Extent{{-1, 1}, {0, 0}, {0, -1}, {10, 1}, {0, 11}, {9, 2}, {math.MaxInt, math.MaxInt}, {1, math.MaxInt}, {math.MaxInt, 1}, {math.MinInt, 1}, {5, math.MinInt}} {
		if got, err := s.Use(e); err != api.ErrArg || got.Size() != 0 {
			t.Errorf("Use(%v): %v", e, err)
		}
		if got, err := s.Give(e); err != api.ErrArg || got.Size() != 0 {
			t.Errorf("Give(%v): %v", e, err)
		}
	}
	a, err := s.Use(ext(3, 2))
	if err != api.OK || !slices.Equal(a.List(), []alloc.Extent{{0, 3}, {5, 5}}) || a.Free() != 8 || s.Free() != 10 {
		t.Errorf("%v, %v", a.List(), err)
	}
	for _, e := range []alloc.Extent{{3, 1}, {4, 1}, {2, 2}, {4, 2}, {0, 10}, {2, 4}} {
		if got, err := a.Use(e); err != api.ErrState || got.Size() != 0 {
			t.Errorf("Use(%v): %v", e, err)
		}
	}
	for _, e := range []alloc.Extent{{2, 1}, {5, 1}, {2, 2}, {4, 2}, {0, 10}, {2, 4}, {9, 1}} {
		if got, err := a.Give(e); err != api.ErrState || got.Size() != 0 {
			t.Errorf("Give(%v): %v", e, err)
		}
	}
	for _, x := range []struct {
		e    alloc.Extent
		want []alloc.Extent
	}{{ext(3, 2), []alloc.Extent{{0, 10}}}, {ext(3, 1), []alloc.Extent{{0, 4}, {5, 5}}}, {ext(4, 1), []alloc.Extent{{0, 3}, {4, 6}}}} {
		b, err := a.Give(x.e)
		if err != api.OK || !slices.Equal(b.List(), x.want) {
			t.Errorf("Give(%v): %v, %v", x.e, b.List(), err)
		}
	}
}

func TestTakeP14_3(t *testing.T) {
	s, _ := set(t, 10).Use(ext(3, 2))
	for _, x := range []struct {
		n    int
		want []alloc.Extent
		e    api.Errno
	}{
		{4, []alloc.Extent{{5, 4}}, api.OK}, {6, []alloc.Extent{{0, 3}, {5, 3}}, api.OK}, {3, []alloc.Extent{{0, 3}}, api.OK}, {1, []alloc.Extent{{0, 1}}, api.OK},
		{5, []alloc.Extent{{5, 5}}, api.OK}, {8, []alloc.Extent{{0, 3}, {5, 5}}, api.OK}, {9, nil, api.ErrSpace}, {math.MaxInt, nil, api.ErrSpace},
		{0, nil, api.ErrArg}, {-1, nil, api.ErrArg}, {math.MinInt, nil, api.ErrArg},
	} {
		got, l, e := s.Take(x.n)
		if e != x.e || !slices.Equal(l, x.want) {
			t.Errorf("Take(%d): %v, %v", x.n, l, e)
		}
		if e != api.OK && got.Size() != 0 || e == api.OK && (got.Free() != 8-x.n || got.Size() != 10) {
			t.Errorf("Take(%d): %d are free", x.n, got.Free())
		}
		if !slices.Equal(s.List(), []alloc.Extent{{0, 3}, {5, 5}}) {
			t.Fatal("the set itself is changed")
		}
	}
}

// TestAgainstBlocks keeps each block's state by itself.
func TestAgainstBlocks(t *testing.T) {
	x := rand.New(rand.NewPCG(14, 1))
	for range 100 {
		n := 1 + x.IntN(40)
		s := set(t, n)
		free := slices.Repeat([]bool{true}, n)
		for range 80 {
			e := ext(x.IntN(n+2)-1, x.IntN(6))
			old, before := s, s.List()
			valid := e.At >= 0 && e.Len >= 1 && e.At+e.Len <= n
			var got alloc.Set
			var err api.Errno
			switch x.IntN(3) {
			case 0, 1:
				use := x.IntN(2) == 0
				want := api.OK
				if !valid {
					want = api.ErrArg
				} else if slices.Contains(free[e.At:e.At+e.Len], !use) {
					want = api.ErrState
				}
				if use {
					got, err = s.Use(e)
				} else {
					got, err = s.Give(e)
				}
				if err != want {
					t.Fatalf("%v: %v, not %v", e, err, want)
				}
				if err == api.OK {
					for b := e.At; b < e.At+e.Len; b++ {
						free[b] = !use
					}
				}
			case 2:
				var l []alloc.Extent
				got, l, err = s.Take(e.Len)
				if err == api.OK {
					if want := taken(before, e.Len); !slices.Equal(l, want) {
						t.Fatalf("Take(%d) of %v: %v, not %v", e.Len, before, l, want)
					}
					for _, y := range l {
						for b := y.At; b < y.At+y.Len; b++ {
							free[b] = false
						}
					}
					l[0].At = -5
				}
			}
			if err == api.OK {
				s = got
			}
			if !slices.Equal(old.List(), before) {
				t.Fatal("a set is changed")
			}
			count := 0
			for b := range n {
				if s.Has(b) != free[b] {
					t.Fatalf("block %d", b)
				}
				if free[b] {
					count++
				}
			}
			if s.Free() != count || !slices.Equal(s.List(), runs(free)) {
				t.Fatalf("%d free: %v", count, s.List())
			}
			if l := s.List(); len(l) > 0 {
				l[0].Len = 99
			}
		}
	}
}

func runs(free []bool) []alloc.Extent {
	var l []alloc.Extent
	for b, f := range free {
		if !f {
			continue
		}
		if b > 0 && free[b-1] {
			l[len(l)-1].Len++
		} else {
			l = append(l, ext(b, 1))
		}
	}
	return l
}

func taken(l []alloc.Extent, n int) []alloc.Extent {
	for _, e := range l {
		if e.Len >= n {
			return []alloc.Extent{ext(e.At, n)}
		}
	}
	var out []alloc.Extent
	for _, e := range l {
		if k := min(n, e.Len); k > 0 {
			out = append(out, ext(e.At, k))
			n -= k
		}
	}
	return out
}
