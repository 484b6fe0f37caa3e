package tree

import (
	"gabion/api"
	"gabion/inode"
	"gabion/path"
)

const up = ".."

// walk is a resolution that goes on.
type walk struct {
	*Tree
	last  bool // whether a Link is followed as the last part
	links int  // how many were followed
}

// Walk: where a way leads from a directory on.
func (t *Tree) Walk(n int, w path.Way, last bool) (int, api.Errno) {
	if _, e := t.node(n); e != api.OK {
		return 0, e
	}
	k := &walk{Tree: t, last: last}
	return k.resolve(n, w, true, false)
}

// resolve goes along a way. It is final if its last part is the last one of all; must tells that a Dir is required then.
func (k *walk) resolve(at int, w path.Way, final, must bool) (int, api.Errno) {
	if w.Abs {
		at = Root
	}
	must = must || w.Dir
	for i, part := range w.Parts {
		end := final && i == len(w.Parts)-1
		next, e := k.look(at, part)
		if e != api.OK {
			return 0, e
		}
		if k.nodes[next].Kind == inode.Link && (!end || k.last || must) {
			next, e = k.follow(at, next, end, must)
			if e != api.OK {
				return 0, e
			}
		}
		at = next
	}
	if final && must && k.nodes[at].Kind != inode.Dir {
		return 0, api.ErrNotDir
	}
	return at, api.OK
}

// look is what a part leads to.
func (k *walk) look(at int, part string) (int, api.Errno) {
	if part == up {
		return k.Up(at)
	}
	return k.Find(at, part)
}

// follow resolves the target of a Link in a directory.
func (k *walk) follow(in, link int, end, must bool) (int, api.Errno) {
	k.links++
	if k.links > api.MaxLinks {
		return 0, api.ErrLoop
	}
	w, e := path.Parse(k.nodes[link].Target)
	if e != api.OK {
		return 0, e
	}
	return k.resolve(in, w, end, must)
}
