package store_test

import (
	"fmt"
	"math"
	"math/rand/v2"
	"slices"
	"strings"
	"testing"

	"gabion/alloc"
	"gabion/api"
	"gabion/apply"
	"gabion/ext"
	"gabion/flat"
	"gabion/hot"
	"gabion/inode"
	"gabion/log"
	"gabion/pm"
	"gabion/rec"
	"gabion/space"
	"gabion/store"
	"gabion/tree"
)

func config() flat.Config {
	return flat.Config{Regions: 2, Lines: 64, Spares: 2, Psi: 100, Key: 1}
}

func open(t *testing.T, d *pm.Device) *space.Space {
	t.Helper()
	p, e := hot.Open(d, 50)
	if e != api.OK {
		t.Fatal(e)
	}
	s, e := space.New(p)
	if e != api.OK {
		t.Fatal(e)
	}
	return s
}

func bare(t *testing.T, c flat.Config) (*pm.Device, *space.Space) {
	t.Helper()
	d, e := pm.New(c.Size())
	if e != api.OK {
		t.Fatal(e)
	}
	if e := hot.Make(d, c); e != api.OK {
		t.Fatal(e)
	}
	return d, open(t, d)
}

func mount(t *testing.T, s *space.Space, half int) *store.Store {
	t.Helper()
	m, e := store.Mount(s, half)
	if e != api.OK || m == nil {
		t.Fatalf("Mount: %v", e)
	}
	return m
}

func made(t *testing.T, c flat.Config, half int) (*pm.Device, *space.Space, *store.Store) {
	t.Helper()
	d, s := bare(t, c)
	if e := store.Format(s, half); e != api.OK {
		t.Fatalf("Format: %v", e)
	}
	return d, s, mount(t, s, half)
}

func run(at, n int) alloc.Extent { return alloc.Extent{At: at, Len: n} }

func isDir() inode.Inode { return inode.Inode{Kind: inode.Dir} }

func file(l ...alloc.Extent) inode.Inode {
	x := inode.Inode{Kind: inode.File, Blocks: l}
	x.Size = 64 * x.Blocks.Blocks()
	return x
}

// mk is a change that makes an inode in the root.
func mk(name string, x inode.Inode) func(t *tree.Tree) api.Errno {
	return func(t *tree.Tree) api.Errno {
		_, e := t.Make(tree.Root, name, x)
		return e
	}
}

func rm(name string) func(t *tree.Tree) api.Errno {
	return func(t *tree.Tree) api.Errno {
		_, e := t.Unlink(tree.Root, name)
		return e
	}
}

func same(a, b *tree.Tree) bool {
	i, n := a.Parts()
	j, m := b.Parts()
	return slices.Equal(n, m) && slices.EqualFunc(i, j, func(x, y tree.Item) bool { return x.N == y.N && inode.Equal(x.Inode, y.Inode) })
}

func is(t *testing.T, what string, got, want api.Errno) {
	t.Helper()
	if got != want {
		t.Errorf("%s: %v, not %v", what, got, want)
	}
}

func free(t *testing.T, s *store.Store, want int) {
	t.Helper()
	if _, n := s.Blocks(); n != want {
		t.Errorf("%d blocks are free, not %d", n, want)
	}
}

func TestFormatP21_1(t *testing.T) {
	_, s := bare(t, config())
	for _, half := range []int{0, -64, 32, 65, math.MinInt, math.MaxInt} {
		is(t, "Format", store.Format(s, half), api.ErrArg)
		m, e := store.Mount(s, half)
		is(t, "Mount", e, api.ErrArg)
		if m != nil {
			t.Error("a store beside an error")
		}
	}
	is(t, "Format", store.Format(nil, 0), api.ErrNil)
	is(t, "Format", store.Format(s, 3328), api.ErrRange)
	is(t, "Format of too small a log", store.Format(s, 64), api.ErrFull)
	_, e := store.Mount(nil, 0)
	is(t, "Mount", e, api.ErrNil)
	is(t, "Format", store.Format(s, 256), api.OK)
	l, got, e := log.Open(s, log.Plan{Half: 256})
	if e != api.OK || !slices.Equal(got, apply.Snapshot(tree.New())) || l.Epoch() != 2 || l.Life() != 2 {
		t.Error(e, got)
	}
	m := mount(t, s, 256)
	if n, f := m.Blocks(); n != (13*512-64-512)/64 || f != n || m.Frozen() || !same(m.Tree(), tree.New()) {
		t.Errorf("%d blocks, %d free", n, f)
	}
	is(t, "Format of all", store.Format(s, 3264), api.OK)
	if n, f := mount(t, s, 3264).Blocks(); n != 1 || f != 1 {
		t.Errorf("%d blocks", n)
	}
}

// lay writes a log with these records.
func lay(t *testing.T, s *space.Space, half int, l []rec.Record) {
	t.Helper()
	log.Format(s, log.Plan{Half: half})
	g, _, e := log.Open(s, log.Plan{Half: half})
	if e != api.OK {
		t.Fatal(e)
	}
	if e := g.Renew(l...); e != api.OK {
		t.Fatal(e)
	}
}

func TestMountP21_1(t *testing.T) {
	_, s := bare(t, config())
	log.Format(s, log.Plan{Half: 512})
	_, e := store.Mount(s, 512)
	is(t, "a log without records", e, api.ErrForm)
	lay(t, s, 512, []rec.Record{{Kind: 9}})
	_, e = store.Mount(s, 512)
	is(t, "a record of another kind", e, api.ErrForm)
	last := (13*512-64-1024)/64 - 1
	for i, x := range []struct {
		l    []inode.Inode
		want api.Errno
	}{
		{[]inode.Inode{file(run(0, 2)), file(run(2, 3), run(ext.Hole, 4), run(last, 1))}, api.OK}, {[]inode.Inode{file(run(0, 2)), file(run(1, 1))}, api.ErrForm}, {[]inode.Inode{file(run(4, 2), run(5, 1))}, api.ErrForm},
		{[]inode.Inode{file(run(last+1, 1))}, api.ErrForm}, {[]inode.Inode{file(run(last, 2))}, api.ErrForm}, {[]inode.Inode{file(run(ext.Hole, 9)), file(run(ext.Hole, 9))}, api.OK}, {[]inode.Inode{file(run(65536, 65000))}, api.ErrForm},
	} {
		tr := tree.New()
		for k, y := range x.l {
			mk(fmt.Sprint(k), y)(tr)
		}
		lay(t, s, 512, apply.Snapshot(tr))
		m, e := store.Mount(s, 512)
		is(t, fmt.Sprint(i), e, x.want)
		if e == api.OK && !same(m.Tree(), tr) || (m == nil) != (e != api.OK) {
			t.Errorf("%d: another tree", i)
		}
		if i == 0 {
			free(t, m, last+1-6)
		}
	}
}

func TestNilP21_2(t *testing.T) {
	var s *store.Store
	n, f := s.Blocks()
	l, e := s.Reserve(0)
	b, e2 := s.Read(-1)
	s.Release([]alloc.Extent{run(0, 1)})
	if s.Tree() != nil || n != 0 || f != 0 || s.Frozen() || len(l) != 0 || b != "" {
		t.Error("a nil store")
	}
	for _, e := range []api.Errno{e, e2, s.Do(nil), s.Open(1), s.Shut(1), s.Write(-1, "")} {
		is(t, "a nil store", e, api.ErrNil)
	}
}

func TestDoP21_3(t *testing.T) {
	d, s, m := made(t, config(), 512)
	is(t, "no change", m.Do(nil), api.ErrArg)
	count := d.Count()
	is(t, "an error", m.Do(func(t *tree.Tree) api.Errno {
		mk("a", isDir())(t)
		return 77
	}), 77)
	is(t, "nothing", m.Do(func(t *tree.Tree) api.Errno { return t.Pin(1) }), api.OK)
	if !same(m.Tree(), tree.New()) || d.Count() != count {
		t.Error("an error, or nothing, changes something")
	}
	is(t, "a change", m.Do(mk("a", file(run(3, 2)))), api.OK)
	n, _ := m.Blocks()
	free(t, m, n-2)
	tr := m.Tree()
	if !same(tr, mount(t, s, 512).Tree()) || tr.Len() != 2 {
		t.Error("the change doesn't last")
	}
	mk("b", isDir())(tr)
	if m.Tree().Len() != 2 {
		t.Error("Tree is shared")
	}
	m = mount(t, s, 512)
	// The log's records are those of the deeds.
	before := m.Tree()
	m.Do(func(t *tree.Tree) api.Errno {
		mk("c", isDir())(t)
		return rm("a")(t)
	})
	rm("a")(before)
	mk("c", isDir())(before)
	_, got, _ := log.Open(s, log.Plan{Half: 512})
	last := got[len(got)-5:]
	for i, kind := range []uint8{apply.Dropped, apply.Name, apply.Inode, apply.Gone, apply.Inode} {
		if last[i].Kind != kind {
			t.Errorf("record %d has the kind %d", i, last[i].Kind)
		}
	}
}

// TestRenewP21_3 fills the log over and over.
func TestRenewP21_3(t *testing.T) {
	_, s, m := made(t, config(), 512)
	want := tree.New()
	for i := range 60 {
		name := fmt.Sprint(i % 3)
		f := mk(name, isDir())
		if i%2 == 1 {
			name = fmt.Sprint((i - 1) % 3)
			f = func(t *tree.Tree) api.Errno { return t.Rmdir(1, name) }
		}
		is(t, "Do", m.Do(f), f(want))
		if !same(m.Tree(), want) || i%7 == 0 && !same(mount(t, s, 512).Tree(), want) {
			t.Fatalf("%d: another tree", i)
		}
		if i%7 == 0 {
			m = mount(t, s, 512)
		}
	}
	l, _, _ := log.Open(s, log.Plan{Half: 512})
	if l.Epoch() < 5 {
		t.Errorf("epoch %d", l.Epoch())
	}
	m = mount(t, s, 512)
	var e api.Errno
	for i := 0; e == api.OK; i++ {
		before := m.Tree()
		e = m.Do(mk(fmt.Sprint("long name ", i), isDir()))
		if e != api.OK && !same(before, m.Tree()) {
			t.Error("an error changes something")
		}
	}
	is(t, "a log that is full", e, api.ErrSpace)
	if m.Frozen() {
		t.Error("frozen without need")
	}
	is(t, "less", m.Do(func(t *tree.Tree) api.Errno { return t.Rmdir(1, "long name 0") }), api.OK)
	if !same(m.Tree(), mount(t, s, 512).Tree()) {
		t.Error("another tree")
	}
}

func TestReserveP21_4(t *testing.T) {
	_, _, m := made(t, config(), 512)
	n, _ := m.Blocks()
	m.Do(mk("a", file(run(3, 2))))
	for _, k := range []int{0, -1, math.MinInt} {
		_, e := m.Reserve(k)
		is(t, "Reserve", e, api.ErrArg)
	}
	for _, k := range []int{n - 1, math.MaxInt} {
		_, e := m.Reserve(k)
		is(t, "Reserve", e, api.ErrSpace)
	}
	l, e := m.Reserve(4)
	if !slices.Equal(l, []alloc.Extent{run(5, 4)}) || e != api.OK {
		t.Error(l, e)
	}
	l, _ = m.Reserve(2)
	if !slices.Equal(l, []alloc.Extent{run(0, 2)}) {
		t.Error(l)
	}
	free(t, m, n-8)
	m.Release([]alloc.Extent{run(-1, 5), run(6, -3), run(3, 2), run(n, 5), run(math.MaxInt, math.MaxInt), run(math.MinInt, math.MaxInt), run(50, 0)})
	free(t, m, n-8)
	m.Release([]alloc.Extent{run(1, 5)})
	free(t, m, n-6)
	l, _ = m.Reserve(1)
	if !slices.Equal(l, []alloc.Extent{run(1, 1)}) {
		t.Error("a block of a file must not become free", l)
	}
	l[0].At = 60
	m.Do(mk("b", file(run(0, 1))))
	m.Release([]alloc.Extent{run(0, 1)})
	free(t, m, n-7)
	m.Do(rm("b"))
	free(t, m, n-6)
	m.Release([]alloc.Extent{run(0, math.MaxInt)})
	free(t, m, n-2)
	l, e = m.Reserve(n - 2)
	if !slices.Equal(l, []alloc.Extent{run(0, 3), run(5, n-5)}) || e != api.OK {
		t.Error(l, e)
	}
	free(t, m, 0)
}

func TestBlocksP21_4(t *testing.T) {
	d, s, m := made(t, config(), 512)
	n, _ := m.Blocks()
	text := strings.Repeat("abcdefgh", 8)
	for _, b := range []int{-1, n, math.MinInt, math.MaxInt} {
		got, e := m.Read(b)
		is(t, "Read", e, api.ErrRange)
		is(t, "Write", m.Write(b, text), api.ErrRange)
		is(t, "Write", m.Write(b, ""), api.ErrArg)
		if got != "" {
			t.Error("bytes beside an error")
		}
	}
	is(t, "Write", m.Write(0, text+"x"), api.ErrArg)
	for _, b := range []int{0, 1, n - 1} {
		is(t, "Write", m.Write(b, text), api.OK)
		if got, e := m.Read(b); got != text || e != api.OK {
			t.Error(e)
		}
		if got, _ := s.Read(64+1024+64*b, 64); got != text {
			t.Errorf("block %d", b)
		}
	}
	if !same(mount(t, s, 512).Tree(), tree.New()) {
		t.Error("the log")
	}
	d.Fuse(1)
	is(t, "Write", m.Write(0, text), api.ErrPower)
	_, e := m.Read(0)
	is(t, "Read", e, api.ErrPower)
	is(t, "Do", m.Do(mk("a", isDir())), api.ErrPower)
	is(t, "Do", m.Do(mk("a", isDir())), api.ErrState)
	if m.Frozen() || m.Tree().Len() != 1 {
		t.Error("without power nothing is frozen, or changed")
	}
}

func breakAll(d *pm.Device) {
	for i := range d.Lines() {
		d.Break(i)
	}
}

func TestFrozenP21_3(t *testing.T) {
	c := config()
	c.Spares = 0
	text := strings.Repeat("x", 64)
	for _, by := range []string{"Do", "Write", "Shut"} {
		d, s, m := made(t, c, 512)
		m.Do(mk("a", file(run(3, 1))))
		m.Do(mk("b", file(run(9, 1))))
		m.Open(2)
		m.Open(3)
		m.Do(rm("b"))
		before := m.Tree()
		got, _ := m.Read(0)
		breakAll(d)
		switch by {
		case "Do":
			is(t, by, m.Do(mk("c", isDir())), api.ErrFrozen)
		case "Write":
			is(t, by, m.Write(0, text), api.ErrFrozen)
		case "Shut":
			is(t, by, m.Shut(3), api.OK)
			before = m.Tree()
			if before.Len() != 2 {
				t.Error("Shut changes the tree in any case")
			}
		}
		called := false
		if !m.Frozen() {
			t.Error(by, "must freeze")
		}
		is(t, by, m.Do(func(*tree.Tree) api.Errno {
			called = true
			return api.OK
		}), api.ErrFrozen)
		is(t, by, m.Do(nil), api.ErrArg)
		is(t, by, m.Write(0, text), api.ErrFrozen)
		is(t, by, m.Write(-1, text), api.ErrRange)
		_, e := m.Reserve(1)
		is(t, by, e, api.ErrFrozen)
		_, e = m.Reserve(0)
		is(t, by, e, api.ErrArg)
		if b, _ := m.Read(0); b != got || !same(m.Tree(), before) || called {
			t.Error(by, "something is changed")
		}
		count := d.Count()
		is(t, by, m.Open(2), api.OK)
		is(t, by, m.Shut(2), api.OK)
		is(t, by, m.Shut(2), api.OK)
		is(t, by, m.Shut(2), api.ErrState)
		if by != "Shut" {
			is(t, by, m.Shut(3), api.OK)
		}
		if m.Tree().Len() != 2 || d.Count() != count {
			t.Error(by, "Shut on a frozen store")
		}
		_ = s
	}
}

func TestShutP21_6(t *testing.T) {
	_, s, m := made(t, config(), 512)
	n, _ := m.Blocks()
	is(t, "Open", m.Open(2), api.ErrNone)
	is(t, "Shut", m.Shut(2), api.ErrNone)
	m.Do(mk("a", file(run(3, 2))))
	is(t, "Shut", m.Shut(2), api.ErrState)
	is(t, "Open", m.Open(2), api.OK)
	is(t, "Open", m.Open(2), api.OK)
	m.Do(rm("a"))
	c := m.Tree()
	is(t, "the copy's open count", c.Pin(2), api.OK)
	free(t, m, n-2)
	is(t, "Shut", m.Shut(2), api.OK)
	if m.Tree().Len() != 2 {
		t.Error("an open inode is gone")
	}
	l, got, _ := log.Open(s, log.Plan{Half: 512})
	if last := got[len(got)-1]; last.Kind != apply.Inode {
		t.Error("nothing is to be logged yet")
	}
	_ = l
	m = mount(t, s, 512)
	if m.Tree().Len() != 1 {
		t.Error("an inode that only existed because it was open")
	}
	free(t, m, n)
	m.Do(mk("a", file(run(3, 2))))
	m.Open(2)
	m.Do(rm("a"))
	is(t, "Shut", m.Shut(2), api.OK)
	free(t, m, n)
	_, got, _ = log.Open(s, log.Plan{Half: 512})
	if last := got[len(got)-1]; last != (rec.Record{Kind: apply.Gone, Body: "\x02\x00"}) {
		t.Error("the removal is to be logged", last)
	}
}

// TestOrphanP21_5: what was only open when the power failed gives its blocks and its number to others.
func TestOrphanP21_5(t *testing.T) {
	_, s, m := made(t, config(), 1024)
	m.Do(mk("a", file(run(3, 2))))
	m.Open(2)
	m.Do(rm("a"))
	m = mount(t, s, 1024)
	m.Do(mk("d", isDir()))
	m.Do(mk("b", file(run(3, 2))))
	want := m.Tree()
	for range 3 {
		m = mount(t, s, 1024)
		if !same(m.Tree(), want) {
			t.Error("another tree")
		}
	}
	m.Do(mk("e", file(run(7, 1))))
	m.Open(4)
	m.Open(3)
	m.Do(rm("e"))
	m.Do(rm("b"))
	m = mount(t, s, 1024)
	m.Do(mk("f", file(run(7, 1), run(4, 1))))
	if !same(m.Tree(), mount(t, s, 1024).Tree()) {
		t.Error("another tree")
	}
}

// TestPowerP21_5 lets lines break and the power fail anywhere.
func TestPowerP21_5(t *testing.T) {
	x := rand.New(rand.NewPCG(21, 1))
	for range 40 {
		c := config()
		c.Spares, c.Psi = 12, 1+x.IntN(5)
		d, s, m := made(t, c, 768)
		want := m.Tree()
		for range 40 {
			name := string(rune('a' + x.IntN(5)))
			k := x.IntN(5)
			at := x.IntN(20)
			f := func(t *tree.Tree) api.Errno {
				switch k {
				case 0:
					return mk(name, isDir())(t)
				case 1:
					return mk(name, file(run(ext.Hole, 3+at)))(t)
				case 2:
					_, e := t.Rename(1, name, 1, string(rune('a'+at%5)))
					return e
				case 3:
					return t.Rmdir(1, name)
				}
				return rm(name)(t)
			}
			next := want.Copy()
			expect := f(next)
			if x.IntN(2) == 0 {
				d.Fuse(1 + x.IntN(120))
			}
			if x.IntN(20) == 0 {
				d.Break(3 + x.IntN(60))
			}
			all := m.Tree().All()
			m.Open(all[x.IntN(len(all))])
			e := m.Do(f)
			if e == api.OK && expect == api.OK {
				want = next
			} else if e == api.ErrPower {
				for {
					d.Boot([]bool{x.IntN(2) == 0, true, x.IntN(2) == 0, x.IntN(2) == 0, false, true, true})
					s = open(t, d)
					if x.IntN(3) == 0 {
						d.Fuse(1 + x.IntN(3))
					}
					if m, e = store.Mount(s, 768); e != api.ErrPower {
						break
					}
				}
				if e != api.OK {
					t.Fatal(e)
				}
				d.Fuse(0)
				got := m.Tree()
				was := want.Copy()
				reaped(was)
				reaped(next)
				if !same(got, was) && (expect != api.OK || !same(got, next)) {
					t.Fatal("neither the old nor the new tree")
				}
				want = got
			} else if e != expect {
				t.Fatalf("%v, not %v", e, expect)
			}
			if e == api.OK {
				// Open counts differ: only names and inodes that have one are held against each other.
				a, b := m.Tree(), want.Copy()
				reaped(a)
				reaped(b)
				_, n := a.Parts()
				_, o := b.Parts()
				if !slices.Equal(n, o) {
					t.Fatal("another tree")
				}
			}
			want = m.Tree()
		}
	}
}

// reaped closes all of a tree.
func reaped(t *tree.Tree) {
	for _, n := range t.All() {
		for e := api.OK; e == api.OK; {
			_, e = t.Unpin(n)
		}
	}
}
