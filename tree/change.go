package tree

import (
	"slices"

	"gabion/alloc"
	"gabion/api"
	"gabion/dir"
	"gabion/ext"
	"gabion/inode"
)

// Make: a new inode, with a name.
func (t *Tree) Make(n int, name string, x inode.Inode) (int, api.Errno) {
	in, e := t.vacant(n, name)
	if e != api.OK {
		return 0, e
	}
	isDir := x.Kind == inode.Dir
	x.Links = 1
	if isDir {
		x.Links = 2
	}
	switch {
	case !x.Right():
		return 0, api.ErrInval
	case len(t.nodes) >= api.MaxInodes:
		return 0, api.ErrFull
	case isDir && in.Links >= api.MaxHard:
		return 0, api.ErrLinks
	}
	of := t.unused()
	fresh := node{Inode: x}
	fresh.Blocks = slices.Clone(x.Blocks)
	if isDir {
		fresh.names, fresh.up = dir.New(), n
		t.relink(n, 1)
	}
	t.put(of, fresh)
	t.setName(n, name, of)
	return of, api.OK
}

// unused is the lowest number that no inode has.
func (t *Tree) unused() int {
	n := Root
	for {
		if _, there := t.nodes[n]; !there {
			return n
		}
		n++
	}
}

// Link: an inode has one name more.
func (t *Tree) Link(of, n int, name string) api.Errno {
	x, e := t.node(of)
	if e != api.OK {
		return e
	}
	if x.Links == 0 {
		return api.ErrNone
	}
	if x.Kind == inode.Dir {
		return api.ErrIsDir
	}
	if _, e := t.vacant(n, name); e != api.OK {
		return e
	}
	if x.Links >= api.MaxHard {
		return api.ErrLinks
	}
	t.setName(n, name, of)
	t.relink(of, 1)
	return api.OK
}

// Unlink: a name is gone; what is free then.
func (t *Tree) Unlink(n int, name string) ([]alloc.Extent, api.Errno) {
	of, e := t.Find(n, name)
	if e != api.OK {
		return nil, e
	}
	if t.nodes[of].Kind == inode.Dir {
		return nil, api.ErrIsDir
	}
	t.dropName(n, name)
	t.relink(of, -1)
	return t.settle(of), api.OK
}

// Rmdir: a directory's name is gone.
func (t *Tree) Rmdir(n int, name string) api.Errno {
	of, e := t.Find(n, name)
	if e != api.OK {
		return e
	}
	x := t.nodes[of]
	if x.Kind != inode.Dir {
		return api.ErrNotDir
	}
	if x.names.Len() > 0 {
		return api.ErrInside
	}
	t.dropName(n, name)
	t.relink(n, -1)
	x.Links = 0
	t.put(of, x)
	t.settle(of)
	return api.OK
}

// Rename: what has a name has another one; what is free then.
func (t *Tree) Rename(from int, name string, to int, as string) ([]alloc.Extent, api.Errno) {
	n, e := t.mover(from, name, to, as)
	if e != api.OK {
		return nil, e
	}
	x := t.nodes[n]
	other, there := t.nodes[to].names.Get(as)
	if there {
		if other == n {
			return nil, api.OK
		}
		if e := t.replaceable(x, t.nodes[other]); e != api.OK {
			return nil, e
		}
	}
	leaves := x.Kind == inode.Dir && from != to
	if leaves && !there && t.nodes[to].Links >= api.MaxHard {
		return nil, api.ErrLinks
	}
	var freed []alloc.Extent
	if there {
		freed = t.remove(to, as, x.Kind)
	}
	t.dropName(from, name)
	t.setName(to, as, n)
	if leaves {
		t.relink(from, -1)
		t.relink(to, 1)
		x.up = to
		t.nodes[n] = x
	}
	return freed, api.OK
}

// mover is the inode that a Rename moves.
func (t *Tree) mover(from int, name string, to int, as string) (int, api.Errno) {
	in, e := t.usable(from)
	if e != api.OK {
		return 0, e
	}
	if _, e := t.usable(to); e != api.OK {
		return 0, e
	}
	n, ok := in.names.Get(name)
	if !ok {
		return 0, api.ErrNone
	}
	if e := dir.Name(as); e != api.OK {
		return 0, e
	}
	if t.nodes[n].Kind == inode.Dir && t.below(to, n) {
		return 0, api.ErrInside
	}
	return n, api.OK
}

// below reports whether a usable directory is another one, or below it.
func (t *Tree) below(n, of int) bool {
	for n != of && n != Root {
		n = t.nodes[n].up
	}
	return n == of
}

// replaceable tells why an inode can't take another one's name.
func (t *Tree) replaceable(x, other node) api.Errno {
	switch {
	case x.Kind != inode.Dir && other.Kind == inode.Dir:
		return api.ErrIsDir
	case x.Kind == inode.Dir && other.Kind != inode.Dir:
		return api.ErrNotDir
	case x.Kind == inode.Dir && other.names.Len() > 0:
		return api.ErrInside
	}
	return api.OK
}

// remove removes a name that can be replaced by an inode of that kind.
func (t *Tree) remove(in int, name string, kind inode.Kind) []alloc.Extent {
	if kind == inode.Dir {
		t.Rmdir(in, name)
		return nil
	}
	freed, _ := t.Unlink(in, name)
	return freed
}

// Set: a file has another size, and other blocks.
func (t *Tree) Set(n, size int, blocks ext.List) api.Errno {
	x, e := t.node(n)
	if e != api.OK {
		return e
	}
	if x.Kind == inode.Dir {
		return api.ErrIsDir
	}
	x.Size = size
	x.Blocks = slices.Clone(blocks)
	if x.Kind == inode.Link || !x.Right() {
		return api.ErrInval
	}
	t.put(n, x)
	return api.OK
}

// Pin: somebody has an inode open.
func (t *Tree) Pin(n int) api.Errno {
	x, e := t.node(n)
	if e != api.OK {
		return e
	}
	x.open++
	t.nodes[n] = x
	return api.OK
}

// Unpin: they haven't any longer; what is free then.
func (t *Tree) Unpin(n int) ([]alloc.Extent, api.Errno) {
	x, e := t.node(n)
	if e != api.OK {
		return nil, e
	}
	if x.open == 0 {
		return nil, api.ErrState
	}
	x.open--
	t.nodes[n] = x
	return t.settle(n), api.OK
}

// Reap: inodes without a name, which aren't open, are gone; what is free then.
func (t *Tree) Reap() []alloc.Extent {
	var freed []alloc.Extent
	for _, n := range t.All() {
		freed = append(freed, t.settle(n)...)
	}
	return freed
}
