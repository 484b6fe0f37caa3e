package inode_test

import (
	"math"
	"strings"
	"testing"

	"gabion/alloc"
	"gabion/api"
	"gabion/ext"
	"gabion/inode"
)

func blocks(l ...int) ext.List {
	var out ext.List
	for i := 0; i < len(l); i += 2 {
		out = append(out, alloc.Extent{At: l[i], Len: l[i+1]})
	}
	return out
}

func file(links, size int, l ...int) inode.Inode {
	return inode.Inode{Kind: inode.File, Links: links, Size: size, Blocks: blocks(l...)}
}

func link(links, size int, target string) inode.Inode {
	return inode.Inode{Kind: inode.Link, Links: links, Size: size, Target: target}
}

func good() []inode.Inode {
	return []inode.Inode{
		file(0, 0), file(1000, 1, 5, 1), file(1, 64, -1, 1), file(1, 65, 5, 1, -1, 1), file(1, 65536*64, -1, 65536), file(1, 65535*64+1, 0, 65536),
		{Kind: inode.Dir}, {Kind: inode.Dir, Links: 2}, {Kind: inode.Dir, Links: 1000, Blocks: ext.List{}},
		link(1, 1, "a"), link(0, 3, "/./"), link(1, 256, strings.Repeat("x", 256)), link(1, 2, "\xff\x01"),
	}
}

func bad() []inode.Inode {
	l := []inode.Inode{
		{}, {Kind: 4, Links: 1}, {Kind: 255},
		file(-1, 0), file(1001, 0), file(math.MinInt, 0), file(math.MaxInt, 0), file(1, -1), file(1, 0, 5, 1), file(1, 1), file(1, 64, 5, 2), file(1, 65, 5, 1), file(1, 128, 5, 1, 6, 1),
		file(1, 65536*64+1, -1, 65536), file(1, 65536*64+1, -1, 65537), file(1, math.MaxInt, -1, 65536), file(1, math.MinInt),
		{Kind: inode.Dir, Links: 2, Size: 1}, {Kind: inode.Dir, Links: 2, Target: "a"}, {Kind: inode.Dir, Links: 2, Blocks: blocks(-1, 1)}, {Kind: inode.Dir, Links: 1001}, {Kind: inode.Dir, Links: -1},
		link(1, 0, ""), link(1, 2, "a"), link(1, 0, "a"), link(1, 257, strings.Repeat("x", 257)), link(1, 3, "a\x00b"), link(1001, 1, "a"),
	}
	x := file(1, 0)
	x.Target = "a"
	y := link(1, 1, "a")
	y.Blocks = blocks(-1, 1)
	return append(l, x, y)
}

func TestRightP16_1(t *testing.T) {
	for i, x := range good() {
		if !x.Right() {
			t.Errorf("%d: %v", i, x)
		}
	}
	for i, x := range bad() {
		if x.Right() {
			t.Errorf("%d: %v", i, x)
		}
	}
}

func TestNeedP16_1(t *testing.T) {
	for _, x := range [][2]int{{0, 0}, {-1, 0}, {math.MinInt, 0}, {1, 1}, {63, 1}, {64, 1}, {65, 2}, {128, 2}, {65536 * 64, 65536}, {math.MaxInt, 1 << 57}} {
		if got := inode.Need(x[0]); got != x[1] {
			t.Errorf("Need(%d) = %d", x[0], got)
		}
	}
}

func TestEqualP16_1(t *testing.T) {
	all := append(good(), bad()...)
	for i, a := range all {
		for j, b := range all {
			if inode.Equal(a, b) != (i == j) {
				t.Errorf("%d and %d", i, j)
			}
		}
	}
	if !inode.Equal(inode.Inode{Blocks: ext.List{}}, inode.Inode{}) || inode.Equal(inode.Inode{Blocks: blocks(1, 2)}, inode.Inode{Blocks: blocks(1, 3)}) || inode.Equal(inode.Inode{Blocks: blocks(1, 2, 7, 7)}, inode.Inode{Blocks: blocks(1, 2)}) {
		t.Error("Blocks")
	}
}

func TestTextP16_2(t *testing.T) {
	for _, x := range []struct {
		n    int
		x    inode.Inode
		want string
	}{
		{1, inode.Inode{Kind: inode.Dir, Links: 2}, "\x01\x00\x02\x02\x00\x00\x00\x00\x00"},
		{0x203, file(0x102, 0x10000-1, -1, 1024), "\x03\x02\x01\x02\x01\xff\xff\x00\x00" + "\x00\x00\x00\x00\x00\x04\x00\x00"},
		{65535, link(1, 3, "abc"), "\xff\xff\x03\x01\x00\x03\x00\x00\x00abc"}, {0, file(0, 0), "\x00\x00\x01\x00\x00\x00\x00\x00\x00"},
	} {
		if got := x.x.Text(x.n); got != x.want {
			t.Errorf("%v: %x", x.x, got)
		}
	}
	for i, x := range good() {
		s := x.Text(700 + i)
		n, y, e := inode.Parse(s)
		if n != 700+i || !inode.Equal(x, y) || e != api.OK {
			t.Errorf("%d: %d, %v, %v", i, n, y, e)
		}
		for _, n := range []int{-1, 65536, math.MinInt, math.MaxInt} {
			if x.Text(n) != "" {
				t.Errorf("number %d", n)
			}
		}
	}
	for i, x := range bad() {
		if x.Text(1) != "" {
			t.Errorf("%d: %v", i, x)
		}
	}
}

func TestParseP16_2(t *testing.T) {
	dir := "\x01\x00\x02\x02\x00\x00\x00\x00\x00"
	f := file(1, 65, 5, 1, -1, 1).Text(7)
	for i, s := range []string{
		"", dir[:8], dir + "\x00", dir + "x", "\x01\x00\x02\xe9\x03\x00\x00\x00\x00", "\x01\x00\x00\x02\x00\x00\x00\x00\x00", "\x01\x00\x04\x02\x00\x00\x00\x00\x00", "\x01\x00\x02\x02\x00\x01\x00\x00\x00",
		f[:len(f)-1], f[:len(f)-8], f + "\x00", f + f[9:], f[:5] + "\x40" + f[6:], f[:5] + "\x81" + f[6:], f[:9],
		"\x01\x00\x03\x01\x00\x00\x00\x00\x00", "\x01\x00\x03\x01\x00\x02\x00\x00\x00a", "\x01\x00\x03\x01\x00\x01\x00\x00\x00\x00", "\x01\x00\x03\x01\x00\x01\x00\x00\x00ab",
	} {
		if n, x, e := inode.Parse(s); n != 0 || !inode.Equal(x, inode.Inode{}) || e != api.ErrForm {
			t.Errorf("%d: %d, %v, %v", i, n, x, e)
		}
	}
	if n, x, e := inode.Parse(f); n != 7 || !inode.Equal(x, file(1, 65, 5, 1, -1, 1)) || e != api.OK {
		t.Errorf("%d, %v, %v", n, x, e)
	}
}
