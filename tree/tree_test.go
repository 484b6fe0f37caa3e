package tree_test

import (
	"fmt"
	"math"
	"math/rand/v2"
	"slices"
	"strings"
	"testing"

	"gabion/alloc"
	"gabion/api"
	"gabion/dir"
	"gabion/ext"
	"gabion/inode"
	"gabion/path"
	"gabion/tree"
)

func isDir() inode.Inode { return inode.Inode{Kind: inode.Dir} }

func link(target string) inode.Inode {
	return inode.Inode{Kind: inode.Link, Size: len(target), Target: target}
}

// file has a block for each of the places.
func file(at ...int) inode.Inode {
	x := inode.Inode{Kind: inode.File, Size: 64 * len(at)}
	for _, a := range at {
		x.Blocks, _ = x.Blocks.Append(alloc.Extent{At: a, Len: 1})
	}
	return x
}

// put makes an inode that can be made.
func put(t *testing.T, tr *tree.Tree, in int, name string, x inode.Inode) int {
	t.Helper()
	n, e := tr.Make(in, name, x)
	if e != api.OK {
		t.Fatalf("Make %s: %v", name, e)
	}
	return n
}

func links(t *testing.T, tr *tree.Tree, n, want int) {
	t.Helper()
	if x, e := tr.Inode(n); x.Links != want || e != api.OK {
		t.Errorf("inode %d has %d links, %v, not %d", n, x.Links, e, want)
	}
}

func is(t *testing.T, what string, got, want api.Errno) {
	t.Helper()
	if got != want {
		t.Errorf("%s: %v, not %v", what, got, want)
	}
}

// sound holds a tree against its parts.
func sound(t *testing.T, tr *tree.Tree) {
	t.Helper()
	items, names := tr.Parts()
	b, e := tree.Build(items, names)
	if e != api.OK {
		t.Fatalf("Build: %v, %v, %v", e, items, names)
	}
	if !same(b, tr) {
		t.Fatalf("Build makes another tree of %v, %v", items, names)
	}
}

func same(a, b *tree.Tree) bool {
	i, n := a.Parts()
	j, m := b.Parts()
	return slices.Equal(n, m) && slices.EqualFunc(i, j, func(x, y tree.Item) bool { return x.N == y.N && inode.Equal(x.Inode, y.Inode) })
}

func TestNewP19_1(t *testing.T) {
	if tree.Root != 1 || tree.PutInode != 1 || tree.DropInode != 2 || tree.PutName != 3 || tree.DropName != 4 {
		t.Error("the constants")
	}
	tr := tree.New()
	x, e := tr.Inode(tree.Root)
	if !inode.Equal(x, inode.Inode{Kind: inode.Dir, Links: 2}) || e != api.OK || tr.Len() != 1 || !slices.Equal(tr.All(), []int{1}) || len(tr.Deeds()) != 0 {
		t.Error("a new tree")
	}
	if up, e := tr.Up(1); up != 1 || e != api.OK {
		t.Error("the root's parent")
	}
	if l, e := tr.Names(1); len(l) != 0 || e != api.OK {
		t.Error("names")
	}
	if n := put(t, tr, 1, "a", isDir()); n != 2 {
		t.Error(n)
	}
	links(t, tr, 1, 3)
	links(t, tr, 2, 2)
	sound(t, tr)
}

func TestNil(t *testing.T) {
	var tr *tree.Tree
	items, names := tr.Parts()
	if len(items) != 0 || len(names) != 0 || len(tr.Reap()) != 0 || tr.Copy() != nil || tr.Len() != 0 || len(tr.All()) != 0 || len(tr.Deeds()) != 0 {
		t.Error("a nil tree has something")
	}
	_, e1 := tr.Inode(1)
	_, e2 := tr.Names(1)
	_, e3 := tr.Up(1)
	_, e4 := tr.Find(1, "a")
	_, e5 := tr.Walk(1, path.Way{}, true)
	_, e6 := tr.Make(1, "a", isDir())
	_, e7 := tr.Unlink(1, "a")
	_, e8 := tr.Rename(1, "a", 1, "b")
	_, e9 := tr.Unpin(1)
	for i, e := range []api.Errno{e1, e2, e3, e4, e5, e6, e7, e8, e9, tr.Link(1, 1, "a"), tr.Rmdir(1, "a"), tr.Set(1, 0, nil), tr.Pin(1)} {
		if e != api.ErrNil {
			t.Errorf("%d: %v", i, e)
		}
	}
}

// wood is the root with a directory d (2), a file f (3), a link l (4) to d, and in d an open directory that was removed (5).
func wood(t *testing.T) *tree.Tree {
	t.Helper()
	tr := tree.New()
	put(t, tr, 1, "d", isDir())
	put(t, tr, 1, "f", file(7))
	put(t, tr, 1, "l", link("d"))
	put(t, tr, 2, "gone", isDir())
	tr.Pin(5)
	if e := tr.Rmdir(2, "gone"); e != api.OK {
		t.Fatal(e)
	}
	sound(t, tr)
	return tr
}

var nowhere = []int{0, -1, 6, 1025, math.MinInt, math.MaxInt}

func TestLooksP19_1(t *testing.T) {
	tr := wood(t)
	if !slices.Equal(tr.All(), []int{1, 2, 3, 4, 5}) || tr.Len() != 5 {
		t.Error(tr.All())
	}
	l, e := tr.Names(1)
	if !slices.Equal(l, []dir.Entry{{Name: "d", N: 2}, {Name: "f", N: 3}, {Name: "l", N: 4}}) || e != api.OK {
		t.Error(l)
	}
	if n, e := tr.Find(1, "l"); n != 4 || e != api.OK {
		t.Error(n, e)
	}
	if n, e := tr.Up(2); n != 1 || e != api.OK {
		t.Error(n, e)
	}
	if n, e := tr.Up(5); n != 0 || e != api.ErrNone {
		t.Error(n, e)
	}
	if l, e := tr.Names(5); len(l) != 0 || e != api.OK {
		t.Error(e)
	}
	if n, e := tr.Find(5, "a"); n != 0 || e != api.ErrNone {
		t.Error(n, e)
	}
	if n, e := tr.Find(1, "x"); n != 0 || e != api.ErrNone {
		t.Error(n, e)
	}
	for _, n := range nowhere {
		x, e1 := tr.Inode(n)
		l, e2 := tr.Names(n)
		u, e3 := tr.Up(n)
		f, e4 := tr.Find(n, "d")
		if !inode.Equal(x, inode.Inode{}) || len(l) != 0 || u != 0 || f != 0 || e1 != api.ErrNone || e2 != api.ErrNone || e3 != api.ErrNone || e4 != api.ErrNone {
			t.Errorf("inode %d", n)
		}
	}
	for _, n := range []int{3, 4} {
		l, e2 := tr.Names(n)
		u, e3 := tr.Up(n)
		f, e4 := tr.Find(n, "d")
		if len(l) != 0 || u != 0 || f != 0 || e2 != api.ErrNotDir || e3 != api.ErrNotDir || e4 != api.ErrNotDir {
			t.Errorf("inode %d", n)
		}
	}
}

func TestCopyP19_1(t *testing.T) {
	tr := wood(t)
	c := tr.Copy()
	if !same(c, tr) || len(c.Deeds()) != 0 {
		t.Error("the copy is another tree")
	}
	if len(tr.Deeds()) == 0 {
		t.Error("the tree lost its deeds")
	}
	if _, e := c.Unpin(5); e != api.OK || c.Len() != 4 || tr.Len() != 5 {
		t.Error("open counts", e)
	}
	put(t, c, 2, "x", file())
	c.Unlink(1, "f")
	put(t, tr, 2, "y", isDir())
	if _, e := tr.Find(1, "f"); e != api.OK {
		t.Error("the tree is changed with its copy")
	}
	if _, e := c.Find(2, "y"); e != api.ErrNone {
		t.Error("the copy is changed with its tree")
	}
	x, _ := tr.Inode(3)
	x.Blocks[0].At = 99
	items, names := tr.Parts()
	items[2].Inode.Blocks[0].At = 98
	names[0].N = 97
	if y, _ := tr.Inode(3); y.Blocks[0].At != 7 {
		t.Error("results are shared")
	}
	sound(t, tr)
	sound(t, c)
	given := file(4)
	put(t, c, 1, "given", given)
	given.Blocks[0].At = 50
	sound(t, c)
	n, _ := c.Find(1, "given")
	if y, _ := c.Inode(n); y.Blocks[0].At != 4 {
		t.Error("an argument is kept")
	}
}

func TestMakeP19_3(t *testing.T) {
	tr := wood(t)
	for _, n := range append(slices.Clone(nowhere), 5) {
		_, e := tr.Make(n, "/", inode.Inode{})
		is(t, fmt.Sprint(n), e, api.ErrNone)
	}
	bad := link("")
	for _, x := range []struct {
		n    int
		name string
		x    inode.Inode
		want api.Errno
	}{
		{3, "/", bad, api.ErrNotDir}, {4, "a", isDir(), api.ErrNotDir}, {1, "", bad, api.ErrName}, {1, ".", bad, api.ErrName}, {1, "..", bad, api.ErrName}, {1, "a/b", bad, api.ErrName},
		{1, strings.Repeat("x", 33), bad, api.ErrName}, {1, "d", bad, api.ErrThere}, {1, "l", isDir(), api.ErrThere}, {1, "a", bad, api.ErrInval}, {1, "a", inode.Inode{}, api.ErrInval},
		{1, "a", inode.Inode{Kind: inode.File, Size: 1}, api.ErrInval}, {1, "a", inode.Inode{Kind: inode.Dir, Size: 1}, api.ErrInval}, {1, "a", inode.Inode{Kind: 4}, api.ErrInval},
	} {
		before := tr.Copy()
		n, e := tr.Make(x.n, x.name, x.x)
		is(t, fmt.Sprint(x), e, x.want)
		if n != 0 || !same(before, tr) {
			t.Error("an error changes something")
		}
	}
	x := file(1)
	x.Links = -77
	if n := put(t, tr, 2, "six", x); n != 6 {
		t.Error(n)
	}
	links(t, tr, 6, 1)
	links(t, tr, 2, 2)
	tr.Unlink(1, "f")
	y := isDir()
	y.Links = 5
	if n := put(t, tr, 2, "three", y); n != 3 {
		t.Error(n)
	}
	links(t, tr, 3, 2)
	links(t, tr, 2, 3)
	if up, _ := tr.Up(3); up != 2 {
		t.Error(up)
	}
	sound(t, tr)
}

func TestFullP19_3(t *testing.T) {
	tr := tree.New()
	put(t, tr, 1, "d", isDir())
	for i := range api.MaxHard - 3 {
		put(t, tr, 1, fmt.Sprint(i), isDir())
	}
	links(t, tr, 1, api.MaxHard)
	_, e := tr.Make(1, "more", isDir())
	is(t, "a Dir more", e, api.ErrLinks)
	_, e = tr.Make(1, "0", isDir())
	is(t, "a Dir more", e, api.ErrThere)
	put(t, tr, 1, "file", file())
	for i := range api.MaxInodes - tr.Len() {
		put(t, tr, 2, fmt.Sprint(i), file())
	}
	_, e = tr.Make(1, "more", isDir())
	is(t, "an inode more", e, api.ErrFull)
	_, e = tr.Make(2, "more", link(""))
	is(t, "an invalid inode more", e, api.ErrInval)
	// Into a full directory a Dir can be renamed only where the name exists.
	put2, e := tr.Rename(1, "5", 2, "moved")
	is(t, "out of it", e, api.OK)
	if len(put2) != 0 {
		t.Error(put2)
	}
	links(t, tr, 1, api.MaxHard-1)
	_, e = tr.Rename(2, "moved", 1, "5")
	is(t, "back", e, api.OK)
	tr.Unlink(2, "0")
	n := put(t, tr, 2, "dir", isDir())
	_, e = tr.Rename(2, "dir", 1, "other")
	is(t, "one too many", e, api.ErrLinks)
	_, e = tr.Rename(1, "7", 1, "seven")
	is(t, "within it", e, api.OK)
	_, e = tr.Rename(2, "dir", 1, "5")
	is(t, "over another one", e, api.OK)
	if got, _ := tr.Find(1, "5"); got != n {
		t.Error(got)
	}
	sound(t, tr)
}

func TestLinkP19_3(t *testing.T) {
	tr := wood(t)
	n := put(t, tr, 2, "open", file())
	tr.Pin(n)
	tr.Unlink(2, "open")
	for _, of := range []int{0, 99, n, 5, math.MinInt} {
		is(t, fmt.Sprint(of), tr.Link(of, 0, "/"), api.ErrNone)
	}
	is(t, "a Dir", tr.Link(2, 0, "/"), api.ErrIsDir)
	is(t, "in nothing", tr.Link(3, 0, "/"), api.ErrNone)
	is(t, "in a removed Dir", tr.Link(3, 5, "/"), api.ErrNone)
	is(t, "in a file", tr.Link(3, 3, "/"), api.ErrNotDir)
	is(t, "a bad name", tr.Link(3, 1, "/"), api.ErrName)
	is(t, "a name that exists", tr.Link(3, 1, "l"), api.ErrThere)
	is(t, "a file", tr.Link(3, 2, "f2"), api.OK)
	is(t, "a link", tr.Link(4, 2, "l2"), api.OK)
	links(t, tr, 3, 2)
	links(t, tr, 4, 2)
	links(t, tr, 2, 2)
	for i := range api.MaxHard - 2 {
		is(t, "many", tr.Link(3, 2, fmt.Sprint(i)), api.OK)
	}
	is(t, "too many", tr.Link(3, 2, "more"), api.ErrLinks)
	is(t, "too many, and there", tr.Link(3, 2, "0"), api.ErrThere)
	sound(t, tr)
}

func TestUnlinkP19_4(t *testing.T) {
	tr := wood(t)
	for _, n := range nowhere {
		_, e := tr.Unlink(n, "f")
		is(t, "Unlink", e, api.ErrNone)
		is(t, "Rmdir", tr.Rmdir(n, "f"), api.ErrNone)
	}
	for _, x := range []struct {
		n             int
		name          string
		unlink, rmdir api.Errno
	}{
		{3, "f", api.ErrNotDir, api.ErrNotDir}, {5, "f", api.ErrNone, api.ErrNone}, {1, "x", api.ErrNone, api.ErrNone}, {1, "", api.ErrNone, api.ErrNone}, {1, "..", api.ErrNone, api.ErrNone},
		{1, "d", api.ErrIsDir, api.OK}, {1, "l", api.OK, api.ErrNotDir},
	} {
		c := tr.Copy()
		_, e := c.Unlink(x.n, x.name)
		is(t, "Unlink "+x.name, e, x.unlink)
		if e != api.OK && !same(c, tr) {
			t.Error("an error changes something")
		}
		c = tr.Copy()
		is(t, "Rmdir "+x.name, c.Rmdir(x.n, x.name), x.rmdir)
		if x.rmdir != api.OK && !same(c, tr) {
			t.Error("an error changes something")
		}
	}
	put(t, tr, 2, "x", file())
	is(t, "a Dir with names", tr.Rmdir(1, "d"), api.ErrInside)
	tr.Unlink(2, "x")
	is(t, "a Dir without names", tr.Rmdir(1, "d"), api.OK)
	links(t, tr, 1, 2)
	if _, e := tr.Inode(2); e != api.ErrNone {
		t.Error("a removed Dir exists")
	}
	sound(t, tr)
}

func TestFreedP19_4_P19_6(t *testing.T) {
	tr := tree.New()
	x := inode.Inode{Kind: inode.File, Size: 64 * 7}
	x.Blocks = ext.List{{At: 9, Len: 2}, {At: ext.Hole, Len: 3}, {At: 4, Len: 1}, {At: ext.Hole, Len: 1}}
	want := []alloc.Extent{{At: 9, Len: 2}, {At: 4, Len: 1}}
	n := put(t, tr, 1, "a", x)
	tr.Link(n, 1, "b")
	if l, e := tr.Unlink(1, "a"); len(l) != 0 || e != api.OK {
		t.Error(l, e)
	}
	links(t, tr, n, 1)
	tr.Pin(n)
	tr.Pin(n)
	if l, e := tr.Unlink(1, "b"); len(l) != 0 || e != api.OK {
		t.Error(l, e)
	}
	links(t, tr, n, 0)
	if l := tr.Reap(); len(l) != 0 || tr.Len() != 2 {
		t.Error("an open inode is reaped")
	}
	if l, e := tr.Unpin(n); len(l) != 0 || e != api.OK {
		t.Error(l, e)
	}
	if l, e := tr.Unpin(n); !slices.Equal(l, want) || e != api.OK || tr.Len() != 1 {
		t.Error(l, e)
	}
	if _, e := tr.Unpin(n); e != api.ErrNone {
		t.Error(e)
	}
	n = put(t, tr, 1, "a", x)
	if _, e := tr.Unpin(n); e != api.ErrState {
		t.Error(e)
	}
	tr.Pin(n)
	if l, e := tr.Unpin(n); len(l) != 0 || e != api.OK || tr.Len() != 2 {
		t.Error("an inode with a name is removed")
	}
	if l, _ := tr.Unlink(1, "a"); !slices.Equal(l, want) {
		t.Error(l)
	}
	for _, n := range nowhere {
		_, e := tr.Unpin(n)
		is(t, "Unpin", e, api.ErrNone)
		is(t, "Pin", tr.Pin(n), api.ErrNone)
	}
	// Removed Dirs are removed from the tree when they are closed.
	d := put(t, tr, 1, "d", isDir())
	tr.Pin(d)
	tr.Rmdir(1, "d")
	links(t, tr, d, 0)
	tr.Unpin(d)
	if tr.Len() != 1 {
		t.Error("a removed Dir exists")
	}
}

func TestRenameP19_5(t *testing.T) {
	tr := wood(t)
	in := put(t, tr, 2, "in", isDir())
	put(t, tr, 2, "g", file(1))
	for _, x := range []struct {
		from int
		name string
		to   int
		as   string
		want api.Errno
	}{
		{0, "f", 3, "/", api.ErrNone}, {5, "f", 3, "/", api.ErrNone}, {3, "f", 0, "/", api.ErrNotDir}, {1, "x", 0, "/", api.ErrNone}, {1, "x", 5, "/", api.ErrNone}, {1, "x", 3, "/", api.ErrNotDir},
		{1, "x", 1, "/", api.ErrNone}, {1, "f", 1, "/", api.ErrName}, {1, "d", 2, "..", api.ErrName}, {1, "d", 2, "x", api.ErrInside}, {1, "d", in, "f", api.ErrInside}, {1, "d", 2, "g", api.ErrInside},
		{1, "d", 1, "d", api.OK}, {1, "f", 1, "f", api.OK}, {1, "d", 1, "f", api.ErrNotDir}, {1, "d", 1, "l", api.ErrNotDir}, {2, "in", 1, "d", api.ErrInside}, {1, "f", 1, "d", api.ErrIsDir},
		{1, "l", 2, "in", api.ErrIsDir}, {2, "g", 1, "d", api.ErrIsDir},
	} {
		before := tr.Copy()
		l, e := tr.Rename(x.from, x.name, x.to, x.as)
		is(t, fmt.Sprint(x), e, x.want)
		if len(l) != 0 || !same(before, tr) {
			t.Errorf("%v changes something", x)
		}
	}
	if l, e := tr.Rename(2, "g", 1, "f"); !slices.Equal(l, []alloc.Extent{{At: 7, Len: 1}}) || e != api.OK {
		t.Error(l, e)
	}
	if _, e := tr.Inode(3); e != api.ErrNone {
		t.Error("the replaced file exists")
	}
	e := put(t, tr, 1, "e", isDir())
	if l, err := tr.Rename(2, "in", 1, "e"); len(l) != 0 || err != api.OK {
		t.Error(l, err)
	}
	if n, _ := tr.Find(1, "e"); n != in {
		t.Error(n)
	}
	if up, _ := tr.Up(in); up != 1 {
		t.Error(up)
	}
	if _, err := tr.Inode(e); err != api.ErrNone {
		t.Error("the replaced Dir exists")
	}
	links(t, tr, 1, 4)
	links(t, tr, 2, 2)
	if _, err := tr.Rename(1, "d", in, "d"); err != api.OK {
		t.Error(err)
	}
	links(t, tr, 1, 3)
	links(t, tr, in, 3)
	if up, _ := tr.Up(2); up != in {
		t.Error(up)
	}
	if _, err := tr.Rename(1, "e", 2, "x"); err != api.ErrInside {
		t.Error(err)
	}
	tr.Link(4, 1, "l2")
	if l, err := tr.Rename(1, "l", 1, "l2"); len(l) != 0 || err != api.OK {
		t.Error(err)
	}
	if _, err := tr.Find(1, "l"); err != api.OK {
		t.Error("two names of one inode: nothing must change")
	}
	sound(t, tr)
}

func TestSetP19_6(t *testing.T) {
	tr := wood(t)
	one := ext.List{{At: 3, Len: 1}}
	for _, n := range nowhere {
		is(t, "Set", tr.Set(n, -1, nil), api.ErrNone)
	}
	is(t, "a Dir", tr.Set(1, -1, nil), api.ErrIsDir)
	is(t, "a removed Dir", tr.Set(5, -1, nil), api.ErrIsDir)
	is(t, "a Link", tr.Set(4, 1, nil), api.ErrInval)
	is(t, "a Link, as it is", tr.Set(4, 1, ext.List{}), api.ErrInval)
	is(t, "negative", tr.Set(3, -1, nil), api.ErrInval)
	is(t, "too few blocks", tr.Set(3, 65, one), api.ErrInval)
	is(t, "too many blocks", tr.Set(3, 0, one), api.ErrInval)
	is(t, "invalid blocks", tr.Set(3, 64, ext.List{{At: -2, Len: 1}}), api.ErrInval)
	is(t, "right", tr.Set(3, 64, one), api.OK)
	one[0].At = 55
	x, _ := tr.Inode(3)
	if x.Size != 64 || !slices.Equal(x.Blocks, ext.List{{At: 3, Len: 1}}) || x.Links != 1 {
		t.Error(x)
	}
	is(t, "empty", tr.Set(3, 0, nil), api.OK)
	if x, _ = tr.Inode(3); x.Size != 0 || len(x.Blocks) != 0 {
		t.Error(x)
	}
}

func TestDeedsP19_6(t *testing.T) {
	tr := tree.New()
	deeds := func(want ...tree.Deed) {
		t.Helper()
		if got := tr.Deeds(); !slices.Equal(got, want) {
			t.Errorf("%v, not %v", got, want)
		}
	}
	putI := func(n int) tree.Deed { return tree.Deed{Kind: tree.PutInode, N: n} }
	dropI := func(n int) tree.Deed { return tree.Deed{Kind: tree.DropInode, N: n} }
	putN := func(n int, s string) tree.Deed { return tree.Deed{Kind: tree.PutName, N: n, Name: s} }
	dropN := func(n int, s string) tree.Deed { return tree.Deed{Kind: tree.DropName, N: n, Name: s} }
	deeds()
	put(t, tr, 1, "d", isDir())
	deeds(putN(1, "d"), putI(1), putI(2))
	put(t, tr, 2, "f", file(5))
	deeds(putN(2, "f"), putI(3))
	put(t, tr, 1, "z", link("d"))
	put(t, tr, 1, "a", link("d"))
	tr.Link(3, 1, "f")
	deeds(putN(1, "a"), putN(1, "f"), putN(1, "z"), putI(3), putI(4), putI(5))
	tr.Pin(3)
	deeds()
	tr.Unlink(1, "f")
	tr.Unlink(2, "f")
	tr.Link(4, 2, "f")
	deeds(dropN(1, "f"), putN(2, "f"), putI(3), putI(4))
	tr.Unpin(3)
	deeds(dropI(3))
	n := put(t, tr, 1, "n", file())
	tr.Unlink(1, "n")
	deeds(dropN(1, "n"), dropI(n))
	tr.Make(1, "d", isDir())
	tr.Rename(1, "d", 1, "d")
	tr.Set(4, 1, nil)
	tr.Rmdir(1, "d")
	deeds()
	put(t, tr, 1, "e", isDir())
	tr.Deeds()
	tr.Unlink(2, "f")
	tr.Rename(1, "d", 3, "d2")
	deeds(dropN(1, "d"), dropN(2, "f"), putN(3, "d2"), putI(1), putI(3), putI(4))
	f := put(t, tr, 1, "f", file())
	tr.Deeds()
	tr.Set(f, 0, nil)
	deeds(putI(f))
	tr.Rename(1, "f", 1, "g")
	deeds(dropN(1, "f"), putN(1, "g"))
	tr.Rename(1, "g", 1, "a")
	deeds(putN(1, "a"), dropN(1, "g"), dropI(5))
	tr.Rmdir(3, "d2")
	deeds(dropN(3, "d2"), dropI(2), putI(3))
	tr.Link(4, 1, "y")
	tr.Unlink(1, "y")
	deeds(dropN(1, "y"), putI(4))
}

func TestBuildP19_7(t *testing.T) {
	root := func(links int) tree.Item {
		return tree.Item{N: 1, Inode: inode.Inode{Kind: inode.Dir, Links: links}}
	}
	dr := func(n, links int) tree.Item {
		return tree.Item{N: n, Inode: inode.Inode{Kind: inode.Dir, Links: links}}
	}
	fl := func(n, links int) tree.Item {
		return tree.Item{N: n, Inode: inode.Inode{Kind: inode.File, Links: links}}
	}
	type names = []tree.Name
	for i, x := range []struct {
		l     []tree.Item
		names names
		want  api.Errno
	}{
		{nil, nil, api.ErrForm}, {[]tree.Item{root(2)}, nil, api.OK}, {[]tree.Item{root(3)}, nil, api.ErrForm}, {[]tree.Item{root(0)}, nil, api.ErrForm}, {[]tree.Item{fl(1, 0)}, nil, api.ErrForm},
		{[]tree.Item{root(2), root(2)}, nil, api.ErrForm}, {[]tree.Item{dr(0, 0), root(2)}, nil, api.ErrForm}, {[]tree.Item{root(2), fl(1025, 0)}, nil, api.ErrForm}, {[]tree.Item{root(2), fl(1024, 0)}, nil, api.OK},
		{[]tree.Item{root(2), fl(-1, 0)}, nil, api.ErrForm}, {[]tree.Item{root(2), {N: 2}}, nil, api.ErrForm}, {[]tree.Item{root(2), fl(2, 1001)}, nil, api.ErrForm},
		{[]tree.Item{fl(3, 2), dr(2, 2), root(3)}, names{{2, "b", 3}, {1, "a", 2}, {1, "b", 3}}, api.OK},
		{[]tree.Item{root(2), fl(2, 1)}, nil, api.ErrForm}, {[]tree.Item{root(2), fl(2, 2)}, names{{1, "a", 2}}, api.ErrForm}, {[]tree.Item{root(2), fl(2, 1)}, names{{1, "a", 2}, {1, "b", 2}}, api.ErrForm},
		{[]tree.Item{root(2), fl(2, 0)}, names{{1, "a", 2}}, api.ErrForm}, {[]tree.Item{root(2), fl(2, 1)}, names{{1, "a/b", 2}}, api.ErrForm}, {[]tree.Item{root(2), fl(2, 1)}, names{{1, "", 2}}, api.ErrForm},
		{[]tree.Item{root(2), fl(2, 0)}, names{{1, "a/b", 2}}, api.ErrForm},
		{[]tree.Item{root(2), fl(2, 2)}, names{{1, "a", 2}, {1, "a", 2}}, api.ErrForm}, {[]tree.Item{root(2), fl(2, 1), fl(3, 1)}, names{{1, "a", 2}, {1, "a", 3}}, api.ErrForm},
		{[]tree.Item{root(2)}, names{{1, "a", 2}}, api.ErrForm}, {[]tree.Item{root(2), fl(2, 1)}, names{{3, "a", 2}}, api.ErrForm}, {[]tree.Item{root(2), fl(2, 2)}, names{{1, "a", 2}, {2, "a", 2}}, api.ErrForm},
		{[]tree.Item{root(3)}, names{{1, "a", 1}}, api.ErrForm}, {[]tree.Item{root(3), dr(2, 3)}, names{{1, "a", 2}, {2, "a", 1}}, api.ErrForm}, {[]tree.Item{root(2), dr(2, 0)}, nil, api.OK},
		{[]tree.Item{root(2), dr(2, 2)}, nil, api.ErrForm}, {[]tree.Item{root(3), dr(2, 0)}, names{{1, "a", 2}}, api.ErrForm}, {[]tree.Item{root(4), dr(2, 2)}, names{{1, "a", 2}, {1, "b", 2}}, api.ErrForm},
		{[]tree.Item{root(2), dr(2, 0), fl(3, 1)}, names{{2, "a", 3}}, api.ErrForm}, {[]tree.Item{root(3), dr(2, 3)}, names{{1, "a", 2}}, api.ErrForm}, {[]tree.Item{root(2), dr(2, 2)}, names{{1, "a", 2}}, api.ErrForm},
		{[]tree.Item{root(2), dr(2, 3), dr(3, 3)}, names{{2, "a", 3}, {3, "a", 2}}, api.ErrForm}, {[]tree.Item{root(2), dr(2, 3)}, names{{2, "a", 2}}, api.ErrForm},
		{[]tree.Item{root(3), dr(2, 3), dr(3, 2)}, names{{1, "a", 2}, {2, "a", 3}}, api.OK}, {[]tree.Item{root(2), fl(2, 0)}, names{{1, "a", -5}}, api.ErrForm},
	} {
		tr, e := tree.Build(x.l, x.names)
		is(t, fmt.Sprint(i), e, x.want)
		if (tr == nil) != (e != api.OK) || len(tr.Deeds()) != 0 {
			t.Errorf("%d: %v", i, tr)
		}
		if e == api.OK {
			if up, e := tr.Up(1); up != 1 || e != api.OK {
				t.Errorf("%d: the root's parent is %d", i, up)
			}
			items, got := tr.Parts()
			if len(items) != len(x.l) || len(got) != len(x.names) || !slices.IsSortedFunc(items, func(a, b tree.Item) int { return a.N - b.N }) {
				t.Errorf("%d: %v, %v", i, items, got)
			}
		}
	}
}

func TestReapP19_7(t *testing.T) {
	tr := tree.New()
	for i := range 4 {
		n := put(t, tr, 1, fmt.Sprint(i), file(10-i, 20-i))
		tr.Pin(n)
		tr.Unlink(1, fmt.Sprint(i))
	}
	d := put(t, tr, 1, "d", isDir())
	tr.Pin(d)
	tr.Rmdir(1, "d")
	items, names := tr.Parts()
	b, e := tree.Build(items, names)
	if e != api.OK {
		t.Fatal(e)
	}
	b.Pin(3)
	if got := b.Reap(); !slices.Equal(got, []alloc.Extent{{At: 10, Len: 1}, {At: 20, Len: 1}, {At: 8, Len: 1}, {At: 18, Len: 1}, {At: 7, Len: 1}, {At: 17, Len: 1}}) {
		t.Error(got)
	}
	if !slices.Equal(b.All(), []int{1, 3}) {
		t.Error(b.All())
	}
	drop := func(n int) tree.Deed { return tree.Deed{Kind: tree.DropInode, N: n} }
	if got := b.Deeds(); !slices.Equal(got, []tree.Deed{drop(2), drop(4), drop(5), drop(6)}) {
		t.Error(got)
	}
}

func TestWalkP19_2(t *testing.T) {
	tr := tree.New()
	a := put(t, tr, 1, "a", isDir())
	b := put(t, tr, a, "b", isDir())
	f := put(t, tr, b, "f", file())
	for name, target := range map[string]string{
		"toa": "a", "toaslash": "a/", "tof": "a/b/f", "tofslash": "a/b/f/", "abs": "/a/b", "root": "/", "dot": ".", "up": "..", "none": "zzz", "self": "self", "tolink": "toa", "tolinkslash": "toa/",
		"long": strings.Repeat("x", 33), "c0": "c1", "c1": "c2", "c2": "c3", "c3": "c4", "c4": "c5", "c5": "c6", "c6": "c7", "c7": "a", "c": "c0", "deep": "a/b/in", "two": "toa/b",
	} {
		put(t, tr, 1, name, link(target))
	}
	in := put(t, tr, b, "in", link("../b/f"))
	n := func(name string) int {
		n, e := tr.Find(1, name)
		if e != api.OK {
			t.Fatal(name)
		}
		return n
	}
	for _, x := range []struct {
		from int
		s    string
		last bool
		want int
		e    api.Errno
	}{
		{1, "a", false, a, 0}, {1, "a/b/f", false, f, 0}, {a, "b", true, b, 0}, {b, "/a", true, a, 0}, {b, "..", true, a, 0}, {b, "../..", true, 1, 0}, {b, "../../..", true, 1, 0}, {1, ".", true, 1, 0},
		{f, ".", true, 0, api.ErrNotDir}, {f, "..", true, 0, api.ErrNotDir}, {f, "x", true, 0, api.ErrNotDir}, {f, "/a", true, a, 0}, {1, "a/b/f/", true, 0, api.ErrNotDir}, {1, "a/b/f/.", false, 0, api.ErrNotDir},
		{1, "a/b/f/x", true, 0, api.ErrNotDir}, {1, "a/b/f/..", true, 0, api.ErrNotDir}, {1, "x", true, 0, api.ErrNone}, {1, "x/y", true, 0, api.ErrNone}, {1, "a/", true, a, 0}, {1, "a/b/..", true, a, 0},
		{99, "/", true, 0, api.ErrNone}, {0, "a", true, 0, api.ErrNone},
		{1, "toa", true, a, 0}, {1, "toa", false, n("toa"), 0}, {1, "toa/", false, a, 0}, {1, "toa/b", false, b, 0}, {1, "toa/b/f", true, f, 0}, {1, "toaslash", true, a, 0}, {1, "toaslash", false, n("toaslash"), 0},
		{1, "tof", true, f, 0}, {1, "tof/", true, 0, api.ErrNotDir}, {1, "tof/x", true, 0, api.ErrNotDir}, {1, "tof/", false, 0, api.ErrNotDir}, {1, "tofslash", true, 0, api.ErrNotDir}, {1, "tofslash", false, n("tofslash"), 0},
		{1, "abs/f", true, f, 0}, {b, "/abs/f", true, f, 0}, {1, "root/a", true, a, 0}, {1, "root", true, 1, 0}, {1, "dot", true, 1, 0}, {1, "dot/a", true, a, 0}, {1, "up", true, 1, 0},
		{1, "none", true, 0, api.ErrNone}, {1, "none", false, n("none"), 0}, {1, "none/", false, 0, api.ErrNone}, {1, "self", true, 0, api.ErrLoop}, {1, "self", false, n("self"), 0}, {1, "self/x", false, 0, api.ErrLoop},
		{1, "tolink", true, a, 0}, {1, "tolink/", false, a, 0}, {1, "tolinkslash", true, a, 0}, {1, "tolink/b", false, b, 0}, {1, "long", true, 0, api.ErrName}, {1, "long", false, n("long"), 0},
		{1, "c0", true, a, 0}, {1, "c0/b", true, b, 0}, {1, "c", true, 0, api.ErrLoop}, {1, "c", false, n("c"), 0}, {1, "c0/../c7", true, 0, api.ErrLoop}, {1, "c0/../c7", false, n("c7"), 0}, {1, "c1/../c7", true, a, 0},
		{1, "c0/../zzz", true, 0, api.ErrNone}, {1, "c0/../long", true, 0, api.ErrLoop}, {1, "deep", true, f, 0}, {1, "a/b/in", true, f, 0}, {1, "a/b/in", false, in, 0}, {1, "two/f", true, f, 0}, {1, "two", false, n("two"), 0},
	} {
		w, e := path.Parse(x.s)
		if e != api.OK {
			t.Fatal(x.s)
		}
		got, e := tr.Walk(x.from, w, x.last)
		if got != x.want || e != x.e {
			t.Errorf("%s from %d, %v: %d, %v, not %d, %v", x.s, x.from, x.last, got, e, x.want, x.e)
		}
	}
	if got, e := tr.Walk(f, path.Way{}, true); got != f || e != api.OK {
		t.Errorf("a way without parts: %d, %v", got, e)
	}
	if got, e := tr.Walk(f, path.Way{Dir: true}, true); got != 0 || e != api.ErrNotDir {
		t.Errorf("a way without parts to a directory: %d, %v", got, e)
	}
	for _, part := range []string{"", ".", "a/b", "\x00"} {
		if got, e := tr.Walk(1, path.Way{Parts: []string{part}}, true); got != 0 || e != api.ErrNone {
			t.Errorf("part %q: %d, %v", part, got, e)
		}
	}
	tr.Pin(b)
	tr.Unlink(b, "in")
	tr.Unlink(b, "f")
	tr.Rmdir(a, "b")
	if got, e := tr.Walk(b, path.Way{Parts: []string{".."}}, true); got != 0 || e != api.ErrNone {
		t.Errorf("from a removed directory: %d, %v", got, e)
	}
	if got, e := tr.Walk(b, path.Way{Dir: true}, true); got != b || e != api.OK {
		t.Errorf("a removed directory: %d, %v", got, e)
	}
}

// TestRandom lets random changes come to sound trees, and deeds tell all of them.
func TestRandom(t *testing.T) {
	x := rand.New(rand.NewPCG(19, 1))
	for range 40 {
		tr := tree.New()
		inodes := map[int]inode.Inode{1: {Kind: inode.Dir, Links: 2}}
		names := map[string]int{}
		open := map[int]int{}
		for range 150 {
			all := tr.All()
			n, m := all[x.IntN(len(all))], all[x.IntN(len(all))]
			a, b := string(rune('a'+x.IntN(4))), string(rune('a'+x.IntN(4)))
			switch x.IntN(10) {
			case 0, 1:
				tr.Make(n, a, isDir())
			case 2:
				tr.Make(n, a, file(x.IntN(50), 60+x.IntN(50)))
			case 3:
				tr.Link(n, m, a)
			case 4:
				tr.Unlink(n, a)
			case 5:
				tr.Rmdir(n, a)
			case 6, 7:
				tr.Rename(n, a, m, b)
			case 8:
				if tr.Pin(n) == api.OK {
					open[n]++
				}
			case 9:
				_, e := tr.Unpin(n)
				if (e == api.OK) != (open[n] > 0) {
					t.Fatalf("Unpin(%d): %v", n, e)
				}
				open[n] = max(open[n]-1, 0)
			}
			if x.IntN(3) == 0 {
				for _, d := range tr.Deeds() {
					key := fmt.Sprint(d.N, "/", d.Name)
					switch d.Kind {
					case tree.PutInode:
						inodes[d.N], _ = tr.Inode(d.N)
					case tree.DropInode:
						delete(inodes, d.N)
					case tree.PutName:
						names[key], _ = tr.Find(d.N, d.Name)
					case tree.DropName:
						delete(names, key)
					}
				}
				items, got := tr.Parts()
				if len(items) != len(inodes) || len(got) != len(names) {
					t.Fatalf("%d inodes, %d names by deeds; %d and %d in the tree", len(inodes), len(names), len(items), len(got))
				}
				for _, i := range items {
					if !inode.Equal(i.Inode, inodes[i.N]) {
						t.Fatalf("inode %d", i.N)
					}
				}
				for _, g := range got {
					if names[fmt.Sprint(g.In, "/", g.Name)] != g.N {
						t.Fatalf("name %v", g)
					}
				}
				sound(t, tr)
			}
		}
	}
}
