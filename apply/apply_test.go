package apply_test

import (
	"fmt"
	"math"
	"math/rand/v2"
	"slices"
	"strings"
	"testing"

	"gabion/alloc"
	"gabion/api"
	"gabion/apply"
	"gabion/inode"
	"gabion/rec"
	"gabion/tree"
)

func isDir() inode.Inode { return inode.Inode{Kind: inode.Dir} }

func link(target string) inode.Inode {
	return inode.Inode{Kind: inode.Link, Size: len(target), Target: target}
}

func file(at int) inode.Inode {
	x := inode.Inode{Kind: inode.File, Size: 64}
	x.Blocks, _ = x.Blocks.Append(alloc.Extent{At: at, Len: 1})
	return x
}

func r(kind int, body string) rec.Record {
	return rec.Record{Kind: uint8(kind), Body: body}
}

const rootBody = "\x01\x00\x02\x02\x00\x00\x00\x00\x00"

func same(a, b *tree.Tree) bool {
	i, n := a.Parts()
	j, m := b.Parts()
	return slices.Equal(n, m) && slices.EqualFunc(i, j, func(x, y tree.Item) bool { return x.N == y.N && inode.Equal(x.Inode, y.Inode) })
}

func sample(t *testing.T) *tree.Tree {
	t.Helper()
	tr := tree.New()
	for i, x := range []inode.Inode{isDir(), file(7), link("a/b")} {
		if n, e := tr.Make(1, string(rune('c'-i)), x); n != 2+i || e != api.OK {
			t.Fatal(e)
		}
	}
	tr.Link(3, 2, "x")
	return tr
}

func TestKindsP20_1(t *testing.T) {
	if apply.Inode != 1 || apply.Gone != 2 || apply.Name != 3 || apply.Dropped != 4 {
		t.Error("the kinds")
	}
}

func TestSnapshotP20_1(t *testing.T) {
	if l := apply.Snapshot(nil); len(l) != 0 {
		t.Error(l)
	}
	if l := apply.Snapshot(tree.New()); !slices.Equal(l, []rec.Record{r(1, rootBody)}) {
		t.Error(l)
	}
	want := []rec.Record{
		r(1, "\x01\x00\x02\x03\x00\x00\x00\x00\x00"), r(1, "\x02\x00\x02\x02\x00\x00\x00\x00\x00"), r(1, "\x03\x00\x01\x02\x00\x40\x00\x00\x00\x08\x00\x00\x00\x01\x00\x00\x00"),
		r(1, "\x04\x00\x03\x01\x00\x03\x00\x00\x00a/b"),
		r(3, "\x01\x00\x04\x00a"), r(3, "\x01\x00\x03\x00b"), r(3, "\x01\x00\x02\x00c"), r(3, "\x02\x00\x03\x00x"),
	}
	if l := apply.Snapshot(sample(t)); !slices.Equal(l, want) {
		t.Errorf("%v, not %v", l, want)
	}
}

func TestRecordsP20_1(t *testing.T) {
	tr := sample(t)
	if l, e := apply.Records(nil, []tree.Deed{{Kind: 9}}); len(l) != 0 || e != api.ErrNil {
		t.Error(e)
	}
	if l, e := apply.Records(tr, nil); len(l) != 0 || e != api.OK {
		t.Error(e)
	}
	good := []tree.Deed{
		{Kind: tree.DropName, N: 65535, Name: "gone"}, {Kind: tree.PutName, N: 2, Name: "x"}, {Kind: tree.DropInode, N: 0x102}, {Kind: tree.PutInode, N: 4, Name: "/ignored"},
		{Kind: tree.DropName, N: 0, Name: "c"}, {Kind: tree.DropInode, N: 4, Name: ""},
	}
	want := []rec.Record{r(4, "\xff\xffgone"), r(3, "\x02\x00\x03\x00x"), r(2, "\x02\x01"), r(1, "\x04\x00\x03\x01\x00\x03\x00\x00\x00a/b"), r(4, "\x00\x00c"), r(2, "\x04\x00")}
	if l, e := apply.Records(tr, good); !slices.Equal(l, want) || e != api.OK {
		t.Errorf("%v, %v", l, e)
	}
	for _, x := range []struct {
		d    tree.Deed
		want api.Errno
	}{
		{tree.Deed{Kind: 0, N: 1}, api.ErrArg}, {tree.Deed{Kind: 5, N: 1}, api.ErrArg}, {tree.Deed{Kind: math.MinInt, N: 1}, api.ErrArg}, {tree.Deed{Kind: 257, N: 1}, api.ErrArg},
		{tree.Deed{Kind: tree.PutInode, N: -1}, api.ErrArg}, {tree.Deed{Kind: tree.DropInode, N: 65536}, api.ErrArg}, {tree.Deed{Kind: tree.DropInode, N: -1}, api.ErrArg}, {tree.Deed{Kind: tree.DropName, N: math.MaxInt, Name: "a"}, api.ErrArg},
		{tree.Deed{Kind: tree.DropName, N: 1, Name: ""}, api.ErrArg}, {tree.Deed{Kind: tree.PutName, N: 1, Name: "a/b"}, api.ErrArg}, {tree.Deed{Kind: tree.PutName, N: 1, Name: ".."}, api.ErrArg}, {tree.Deed{Kind: tree.PutName, N: 99, Name: "/"}, api.ErrArg},
		{tree.Deed{Kind: tree.PutInode, N: 9}, api.ErrNone}, {tree.Deed{Kind: tree.PutInode, N: 0}, api.ErrNone}, {tree.Deed{Kind: tree.PutName, N: 1, Name: "zz"}, api.ErrNone}, {tree.Deed{Kind: tree.PutName, N: 9, Name: "a"}, api.ErrNone},
		{tree.Deed{Kind: tree.PutName, N: 3, Name: "a"}, api.ErrNone},
	} {
		if l, e := apply.Records(tr, append(slices.Clone(good), x.d, tree.Deed{Kind: 77}, tree.Deed{Kind: tree.PutInode, N: 9})); len(l) != 0 || e != x.want {
			t.Errorf("%v: %v", x.d, e)
		}
	}
}

func TestApplyP20_2(t *testing.T) {
	var none *apply.State
	if none.Apply(rec.Record{}) != api.ErrNil {
		t.Error("a nil State")
	}
	if tr, e := none.Tree(); tr != nil || e != api.ErrNil {
		t.Error(e)
	}
	s := apply.New()
	if tr, e := s.Tree(); tr != nil || e != api.ErrForm {
		t.Error("a State without a root")
	}
	for _, x := range []rec.Record{
		{}, r(5, rootBody), r(255, ""), r(1, ""), r(1, rootBody+"x"), r(1, rootBody[:8]), r(2, ""), r(2, "x"), r(2, "abc"), r(3, "\x01\x00\x02\x00"), r(3, "\x01\x00\x02\x00/"), r(3, "\x01\x00\x02\x00.."), r(3, "abc"),
		r(4, ""), r(4, "ab"), r(4, "ab/"), r(4, "ab"+strings.Repeat("x", 33)), r(4, "ab."), r(1, strings.Repeat("x", 5000)),
	} {
		if e := s.Apply(x); e != api.ErrForm {
			t.Errorf("%v: %v", x, e)
		}
		if tr, e := apply.Replay([]rec.Record{r(1, rootBody), x}); tr != nil || e != api.ErrForm {
			t.Errorf("%v: %v", x, e)
		}
	}
	for _, x := range []rec.Record{r(2, "\x09\x00"), r(4, "\x09\x00zz"), r(1, "\x01\x00\x02\x03\x00\x00\x00\x00\x00"), r(3, "\x01\x00\xff\xffd"), r(3, "\x01\x00\x02\x00d"), r(1, file(3).Text(2)), r(1, "\x02\x00\x02\x02\x00\x00\x00\x00\x00"), r(1, "\xff\xff\x02\x00\x00\x00\x00\x00\x00")} {
		if e := s.Apply(x); e != api.OK {
			t.Errorf("%v: %v", x, e)
		}
	}
	if tr, e := s.Tree(); tr != nil || e != api.ErrForm {
		t.Error("the inode 65535 can't be in a tree")
	}
	s.Apply(r(2, "\xff\xff"))
	a, e := s.Tree()
	if e != api.OK || !slices.Equal(a.All(), []int{1, 2}) || len(a.Deeds()) != 0 {
		t.Fatal(e)
	}
	a.Make(1, "more", file(1))
	b, _ := s.Tree()
	if b.Len() != 2 {
		t.Error("the State is changed with its tree")
	}
	s.Apply(r(4, "\x01\x00d"))
	s.Apply(r(2, "\x02\x00"))
	s.Apply(r(1, rootBody))
	if c, e := s.Tree(); e != api.OK || !same(c, tree.New()) || b.Len() != 2 {
		t.Error(e)
	}
}

func TestReplayP20_2(t *testing.T) {
	if tr, e := apply.Replay(nil); tr != nil || e != api.ErrForm {
		t.Error(e)
	}
	if tr, e := apply.Replay([]rec.Record{r(1, rootBody)}); e != api.OK || !same(tr, tree.New()) {
		t.Error(e)
	}
}

// TestWholeP20_3 replays a snapshot and all deeds behind it.
func TestWholeP20_3(t *testing.T) {
	x := rand.New(rand.NewPCG(20, 1))
	for range 40 {
		tr := sample(t)
		tr.Deeds()
		log := apply.Snapshot(tr)
		for step := range 120 {
			all := tr.All()
			n, m := all[x.IntN(len(all))], all[x.IntN(len(all))]
			a, b := string(rune('a'+x.IntN(4))), string(rune('a'+x.IntN(4)))
			switch x.IntN(9) {
			case 0, 1:
				tr.Make(n, a, isDir())
			case 2:
				tr.Make(n, a, file(x.IntN(50)))
			case 3:
				tr.Make(n, a, link(fmt.Sprint(step)))
			case 4:
				tr.Link(n, m, a)
			case 5:
				tr.Unlink(n, a)
			case 6:
				tr.Rmdir(n, a)
			case 7:
				tr.Rename(n, a, m, b)
			case 8:
				tr.Pin(n)
			}
			if x.IntN(4) == 0 {
				l, e := apply.Records(tr, tr.Deeds())
				if e != api.OK {
					t.Fatal(e)
				}
				log = append(log, l...)
				got, e := apply.Replay(log)
				if e != api.OK || !same(got, tr) {
					t.Fatalf("step %d: %v", step, e)
				}
			}
		}
	}
}

func TestZeroStateP20_2(t *testing.T) {
	var s apply.State
	for _, x := range []rec.Record{r(4, "\x01\x00d"), r(2, "\x01\x00"), r(1, rootBody)} {
		if e := s.Apply(x); e != api.OK {
			t.Error(e)
		}
	}
	if tr, e := s.Tree(); e != api.OK || !same(tr, tree.New()) {
		t.Error(e)
	}
}
