package tree

import (
	"slices"

	"gabion/api"
	"gabion/dir"
	"gabion/inode"
)

// Build: the tree of inodes and names.
func Build(l []Item, names []Name) (*Tree, api.Errno) {
	b := builder{tree: empty(), names: map[int]int{}, dirs: map[int]int{}}
	for _, x := range l {
		if !b.item(x) {
			return nil, api.ErrForm
		}
	}
	for _, x := range names {
		if !b.name(x) {
			return nil, api.ErrForm
		}
	}
	if b.tree.nodes[Root].Kind != inode.Dir {
		return nil, api.ErrForm
	}
	for n := range b.tree.nodes {
		if !b.agrees(n) {
			return nil, api.ErrForm
		}
	}
	return b.tree, api.OK
}

// builder is a tree that is being built.
type builder struct {
	tree  *Tree
	names map[int]int // how many names an inode has
	dirs  map[int]int // how many Dirs are in a Dir
}

// item takes in an inode.
func (b builder) item(x Item) bool {
	_, twice := b.tree.nodes[x.N]
	if x.N < Root || x.N > api.MaxInodes || twice || !x.Inode.Right() {
		return false
	}
	fresh := node{Inode: x.Inode}
	fresh.Blocks = slices.Clone(x.Inode.Blocks)
	if x.Inode.Kind == inode.Dir {
		fresh.names = dir.New()
	}
	if x.N == Root {
		fresh.up = Root
	}
	b.tree.nodes[x.N] = fresh
	return true
}

// name takes in a name of an inode that is here already.
func (b builder) name(x Name) bool {
	in := b.tree.nodes[x.In]
	of, there := b.tree.nodes[x.N]
	if _, twice := in.names.Get(x.Name); twice || !there || in.Kind != inode.Dir || x.N == Root {
		return false
	}
	if in.names.Put(x.Name, x.N) != api.OK {
		return false
	}
	b.names[x.N]++
	if of.Kind == inode.Dir {
		b.dirs[x.In]++
		of.up = x.In
		b.tree.nodes[x.N] = of
	}
	return true
}

// agrees reports whether the names of an inode, and those in it, are as its links say.
func (b builder) agrees(n int) bool {
	x := b.tree.nodes[n]
	if x.Kind != inode.Dir {
		return b.names[n] == x.Links
	}
	if n != Root && b.names[n] == 0 {
		return x.Links == 0 && x.names.Len() == 0
	}
	return b.names[n] <= 1 && x.Links == 2+b.dirs[n] && b.reaches(n)
}

// reaches reports whether the parents of a Dir lead to the root.
func (b builder) reaches(n int) bool {
	for range b.tree.nodes {
		if n == Root {
			return true
		}
		n = b.tree.nodes[n].up
	}
	return n == Root
}
