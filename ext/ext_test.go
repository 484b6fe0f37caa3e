package ext_test

import (
	"math"
	"math/rand/v2"
	"slices"
	"strings"
	"testing"

	"gabion/alloc"
	"gabion/api"
	"gabion/ext"
	"gabion/le"
)

const hole = ext.Hole

func run(at, n int) alloc.Extent {
	return alloc.Extent{At: at, Len: n}
}

// comb has n runs of one block that can't be merged.
func comb(n int) ext.List {
	var l ext.List
	for i := range n {
		l = append(l, run(2*i, 1))
	}
	return l
}

func TestRightP15_1(t *testing.T) {
	for i, x := range []struct {
		l    ext.List
		want bool
	}{
		{nil, true}, {ext.List{}, true}, {ext.List{run(0, 1)}, true}, {ext.List{run(hole, 65536)}, true}, {ext.List{run(65536, 65536)}, true},
		{ext.List{run(65537, 1)}, false}, {ext.List{run(-2, 1)}, false}, {ext.List{run(0, 0)}, false}, {ext.List{run(0, -1)}, false}, {ext.List{run(0, 65537)}, false},
		{ext.List{run(0, 65535), run(hole, 1)}, true}, {ext.List{run(0, 65535), run(hole, 2)}, false}, {ext.List{run(3, 2), run(5, 1)}, false}, {ext.List{run(3, 2), run(4, 1)}, true},
		{ext.List{run(3, 2), run(6, 1)}, true}, {ext.List{run(5, 1), run(3, 2)}, true}, {ext.List{run(hole, 1), run(hole, 1)}, false}, {ext.List{run(hole, 1), run(0, 1)}, true},
		{ext.List{run(hole, 4), run(3, 1)}, true}, {ext.List{run(3, 1), run(hole, 4)}, true}, {ext.List{run(3, 2), run(hole, 1), run(5, 1)}, true}, {ext.List{run(3, 1), run(3, 1)}, true},
		{comb(64), true}, {comb(65), false}, {ext.List{run(math.MaxInt, math.MaxInt)}, false}, {ext.List{run(0, math.MaxInt), run(0, math.MaxInt)}, false}, {ext.List{run(math.MinInt, 1)}, false},
	} {
		if x.l.Right() != x.want {
			t.Errorf("%d: %v", i, x.l)
		}
	}
}

func TestMapP15_1(t *testing.T) {
	l := ext.List{run(5, 2), run(hole, 3), run(0, 1)}
	if l.Blocks() != 6 || l.Held() != 3 || (ext.List{}).Blocks() != 0 || (ext.List{}).Held() != 0 {
		t.Errorf("%d, %d", l.Blocks(), l.Held())
	}
	for i, want := range []int{5, 6, hole, hole, hole, 0} {
		if at, ok := l.Map(i); at != want || !ok {
			t.Errorf("block %d is at %d, %v", i, at, ok)
		}
	}
	for _, i := range []int{-1, 6, math.MinInt, math.MaxInt} {
		if at, ok := l.Map(i); at != 0 || ok {
			t.Errorf("block %d is at %d, %v", i, at, ok)
		}
	}
}

func TestAppendP15_2(t *testing.T) {
	for i, x := range []struct {
		l    ext.List
		r    alloc.Extent
		want ext.List
		e    api.Errno
	}{
		{nil, run(4, 2), ext.List{run(4, 2)}, api.OK}, {ext.List{run(4, 2)}, run(6, 3), ext.List{run(4, 5)}, api.OK}, {ext.List{run(4, 2)}, run(7, 3), ext.List{run(4, 2), run(7, 3)}, api.OK},
		{ext.List{run(4, 2), run(hole, 1)}, run(hole, 3), ext.List{run(4, 2), run(hole, 4)}, api.OK}, {ext.List{run(hole, 2)}, run(1, 1), ext.List{run(hole, 2), run(1, 1)}, api.OK},
		{ext.List{run(4, 0)}, run(4, 2), nil, api.ErrArg}, {ext.List{run(4, 1), run(5, 1)}, run(0, 0), nil, api.ErrArg}, {nil, run(0, 0), nil, api.ErrFull}, {nil, run(-2, 1), nil, api.ErrFull},
		{nil, run(65537, 1), nil, api.ErrFull}, {nil, run(0, 65537), nil, api.ErrFull}, {nil, run(math.MaxInt, math.MaxInt), nil, api.ErrFull}, {ext.List{run(0, 65536)}, run(hole, 1), nil, api.ErrFull},
		{ext.List{run(0, 65536)}, run(65536, 1), nil, api.ErrFull}, {comb(64), run(500, 1), nil, api.ErrFull}, {comb(64), run(hole, 1), nil, api.ErrFull},
		{comb(64), run(127, 1), append(comb(63), run(126, 2)), api.OK}, {comb(63), run(500, 1), append(comb(63), run(500, 1)), api.OK},
	} {
		before := slices.Clone(x.l)
		got, e := x.l.Append(x.r)
		if e != x.e || !slices.Equal(got, x.want) || !slices.Equal(before, x.l) {
			t.Errorf("%d: %v, %v", i, got, e)
		}
	}
}

func TestCutP15_2(t *testing.T) {
	l := ext.List{run(5, 2), run(hole, 3), run(7, 2), run(hole, 1), run(9, 1)}
	for _, x := range []struct {
		n    int
		want ext.List
		rest []alloc.Extent
		e    api.Errno
	}{
		{9, l, nil, api.OK}, {0, nil, []alloc.Extent{run(5, 2), run(7, 2), run(9, 1)}, api.OK}, {1, ext.List{run(5, 1)}, []alloc.Extent{run(6, 1), run(7, 2), run(9, 1)}, api.OK},
		{3, ext.List{run(5, 2), run(hole, 1)}, []alloc.Extent{run(7, 2), run(9, 1)}, api.OK}, {6, ext.List{run(5, 2), run(hole, 3), run(7, 1)}, []alloc.Extent{run(8, 1), run(9, 1)}, api.OK},
		{8, l[:4], []alloc.Extent{run(9, 1)}, api.OK}, {-1, nil, nil, api.ErrArg}, {10, nil, nil, api.ErrArg}, {math.MinInt, nil, nil, api.ErrArg}, {math.MaxInt, nil, nil, api.ErrArg},
	} {
		got, rest, e := l.Cut(x.n)
		if e != x.e || !slices.Equal(got, x.want) || !slices.Equal(rest, x.rest) {
			t.Errorf("Cut(%d): %v, %v, %v", x.n, got, rest, e)
		}
	}
	if got, rest, e := (ext.List{run(0, 0)}).Cut(0); e != api.ErrArg || len(got) != 0 || len(rest) != 0 {
		t.Error(e)
	}
	if got, rest, e := (ext.List{}).Cut(0); e != api.OK || len(got) != 0 || len(rest) != 0 {
		t.Error(e)
	}
	if !slices.Equal(l, ext.List{run(5, 2), run(hole, 3), run(7, 2), run(hole, 1), run(9, 1)}) {
		t.Error("the list itself is changed")
	}
}

func TestFillP15_3(t *testing.T) {
	h3 := ext.List{run(hole, 3)}
	full := append(comb(63), run(hole, 5))
	for i, x := range []struct {
		l    ext.List
		i    int
		r    alloc.Extent
		want ext.List
		e    api.Errno
	}{
		{h3, 1, run(7, 1), ext.List{run(hole, 1), run(7, 1), run(hole, 1)}, api.OK}, {h3, 0, run(7, 1), ext.List{run(7, 1), run(hole, 2)}, api.OK},
		{h3, 0, run(7, 3), ext.List{run(7, 3)}, api.OK}, {h3, 2, run(7, 1), ext.List{run(hole, 2), run(7, 1)}, api.OK}, {h3, 2, run(7, 2), nil, api.ErrArg}, {h3, 0, run(7, 4), nil, api.ErrArg},
		{h3, -1, run(7, 1), nil, api.ErrArg}, {h3, 3, run(7, 1), nil, api.ErrArg}, {h3, 0, run(-1, 1), nil, api.ErrArg}, {h3, 0, run(7, 0), nil, api.ErrArg}, {h3, 0, run(7, -1), nil, api.ErrArg},
		{h3, 0, run(65537, 1), nil, api.ErrFull}, {h3, 0, run(math.MaxInt, 1), nil, api.ErrFull}, {h3, 1, run(math.MaxInt, 2), nil, api.ErrFull}, {h3, math.MaxInt, run(7, math.MaxInt), nil, api.ErrArg}, {h3, math.MinInt, run(7, math.MinInt), nil, api.ErrArg},
		{ext.List{run(2, 2), run(hole, 2), run(6, 1)}, 2, run(4, 2), ext.List{run(2, 5)}, api.OK}, {ext.List{run(2, 2), run(hole, 2), run(6, 1)}, 1, run(9, 1), nil, api.ErrArg},
		{ext.List{run(2, 2), run(hole, 2), run(6, 1)}, 3, run(9, 2), nil, api.ErrArg}, {ext.List{run(2, 2), run(hole, 2), run(6, 1)}, 2, run(4, 1), ext.List{run(2, 3), run(hole, 1), run(6, 1)}, api.OK},
		{ext.List{run(0, 0)}, 0, run(1, 1), nil, api.ErrArg}, {nil, 0, run(1, 1), nil, api.ErrArg}, {full, 64, run(500, 1), nil, api.ErrFull}, {full, 63, run(500, 5), append(comb(63), run(500, 5)), api.OK},
		{full, 63, run(125, 1), append(comb(62), run(124, 2), run(hole, 4)), api.OK},
	} {
		before := slices.Clone(x.l)
		got, e := x.l.Fill(x.i, x.r)
		if e != x.e || !slices.Equal(got, x.want) || !slices.Equal(before, x.l) {
			t.Errorf("%d: %v, %v", i, got, e)
		}
	}
}

func TestTextP15_4(t *testing.T) {
	l := ext.List{run(hole, 3), run(65536, 0x102)}
	want := "\x00\x00\x00\x00\x03\x00\x00\x00" + "\x01\x00\x01\x00\x02\x01\x00\x00"
	if l.Text() != want {
		t.Errorf("%x", l.Text())
	}
	if got, e := ext.Parse(want); !slices.Equal(got, l) || e != api.OK {
		t.Errorf("%v, %v", got, e)
	}
	if (ext.List{}).Text() != "" || (ext.List{run(1, 0)}).Text() != "" || comb(65).Text() != "" || len(comb(64).Text()) != 512 {
		t.Error("Text")
	}
	if got, e := ext.Parse(""); len(got) != 0 || e != api.OK {
		t.Error(e)
	}
	pair := func(a, n uint64) string { return le.Put(a, 4) + le.Put(n, 4) }
	for _, s := range []string{"x", want[1:], want + "\x00", pair(1, 0), pair(65538, 1), pair(1<<32-1, 1), pair(1, 65537), pair(1, 1) + pair(2, 1), pair(0, 1) + pair(0, 1), comb(64).Text() + pair(0, 1), strings.Repeat("\x00", 8)} {
		if got, e := ext.Parse(s); got != nil || e != api.ErrForm {
			t.Errorf("Parse(%x): %v, %v", s, got, e)
		}
	}
	for n := range 65 {
		if got, e := ext.Parse(comb(n).Text()); !slices.Equal(got, comb(n)) || e != api.OK {
			t.Errorf("%d runs: %v", n, e)
		}
	}
}

// TestAgainstBlocks keeps each block's place by itself.
func TestAgainstBlocks(t *testing.T) {
	x := rand.New(rand.NewPCG(15, 1))
	for range 200 {
		var l ext.List
		var blocks []int
		for range 40 {
			at, n := x.IntN(12)-1, 1+x.IntN(4)
			next := slices.Clone(blocks)
			var got ext.List
			var e api.Errno
			switch x.IntN(3) {
			case 0:
				for i := range n {
					next = append(next, max(at+i*min(at+1, 1), hole))
				}
				got, e = l.Append(run(at, n))
			case 1:
				n = x.IntN(len(blocks) + 1)
				next = next[:n]
				var rest []alloc.Extent
				got, rest, e = l.Cut(n)
				var want []int
				for _, b := range blocks[n:] {
					if b != hole {
						want = append(want, b)
					}
				}
				var held []int
				for _, r := range rest {
					for i := range r.Len {
						held = append(held, r.At+i)
					}
				}
				if !slices.Equal(held, want) {
					t.Fatalf("Cut(%d) of %v: %v", n, l, rest)
				}
			case 2:
				i := x.IntN(len(blocks) + 1)
				fits := at >= 0 && i+n <= len(blocks)
				for k := 0; fits && k < n; k++ {
					fits = blocks[i+k] == hole
				}
				got, e = l.Fill(i, run(at, n))
				if (e == api.OK) != fits {
					t.Fatalf("Fill(%d, %d, %d) of %v: %v", i, at, n, l, e)
				}
				for k := 0; fits && k < n; k++ {
					next[i+k] = at + k
				}
			}
			if e != api.OK {
				continue
			}
			l, blocks = got, next
			held := 0
			for i, b := range blocks {
				if where, ok := l.Map(i); where != b || !ok {
					t.Fatalf("block %d of %v is at %d, not %d", i, l, where, b)
				}
				if b != hole {
					held++
				}
			}
			if !l.Right() || l.Blocks() != len(blocks) || l.Held() != held {
				t.Fatalf("%v: %v", l, blocks)
			}
		}
	}
}
