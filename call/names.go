package call

import (
	"gabion/api"
	"gabion/inode"
	"gabion/path"
	"gabion/tree"
)

// onePath starts a call with one path to resolve.
func (p *progress) onePath() (Result, bool) {
	w, e := path.Parse(p.call.Path)
	if e != api.OK {
		return end(e)
	}
	switch p.call.Kind {
	case Truncate:
		return p.truncate(w)
	case Readlink, Stat, Lstat, Readdir:
		return p.look(w)
	}
	head, name, ok := split(w)
	if e := lastless(p.call.Kind, w, ok); e != api.OK {
		return end(e)
	}
	return p.change(func(t *tree.Tree) api.Errno {
		in, e := resolve(t, head, true)
		if e != api.OK {
			return e
		}
		return p.changeName(t, in, name, w.Dir)
	})
}

// lastless is the error of a path alone, by whether it has a last part.
func lastless(k Kind, w path.Way, ok bool) api.Errno {
	switch {
	case !ok && k == Rmdir:
		return api.ErrBusy
	case !ok && k == Unlink:
		return api.ErrIsDir
	case !ok:
		return api.ErrThere
	case k == Symlink && w.Dir:
		return api.ErrNotDir
	}
	return api.OK
}

// changeName makes or removes a name in a directory.
func (p *progress) changeName(t *tree.Tree, in int, name string, dir bool) api.Errno {
	var e api.Errno
	switch p.call.Kind {
	case Mkdir:
		_, e = t.Make(in, name, inode.Inode{Kind: inode.Dir})
	case Symlink:
		_, e = t.Make(in, name, inode.Inode{Kind: inode.Link, Size: len(p.call.To), Target: p.call.To})
	case Rmdir:
		e = t.Rmdir(in, name)
	case Unlink:
		if dir && other(t, in, name) {
			return api.ErrNotDir
		}
		_, e = t.Unlink(in, name)
	}
	return e
}

// other reports whether a name exists and is not that of a Dir.
func other(t *tree.Tree, in int, name string) bool {
	n, e := t.Find(in, name)
	return e == api.OK && kindOf(t, n) != inode.Dir
}

// truncate needs the lock of the names while it resolves the path, and until the file is changed.
func (p *progress) truncate(w path.Way) (Result, bool) {
	return p.need(func() (Result, bool) {
		n, e := resolve(p.store.Tree(), w, true)
		if e != api.OK {
			return end(e)
		}
		return p.need(func() (Result, bool) {
			return p.resize(n, p.call.N, func() (Result, bool) { return end(api.OK) })
		}, n)
	}, namesLock)
}

// look makes a call that changes nothing.
func (p *progress) look(w path.Way) (Result, bool) {
	t := p.store.Tree()
	n, e := resolve(t, w, p.call.Kind == Stat || p.call.Kind == Readdir)
	if e != api.OK {
		return end(e)
	}
	switch p.call.Kind {
	case Readlink:
		x, _ := t.Inode(n)
		if x.Kind != inode.Link {
			return end(api.ErrInval)
		}
		return Result{Data: x.Target}, true
	case Readdir:
		l, e := t.Names(n)
		r := Result{Err: e}
		for _, x := range l {
			r.Names = append(r.Names, x.Name)
		}
		return r, true
	}
	return p.facts(n)
}

// twoPaths starts a call with two paths to resolve.
func (p *progress) twoPaths() (Result, bool) {
	from, e := path.Parse(p.call.Path)
	if e != api.OK {
		return end(e)
	}
	to, e := path.Parse(p.call.To)
	if e != api.OK {
		return end(e)
	}
	if p.call.Kind == Link {
		return p.link(from, to)
	}
	return p.rename(from, to)
}

func (p *progress) link(from, to path.Way) (Result, bool) {
	head, name, ok := split(to)
	if !ok || to.Dir {
		// The path's errors come first. Nothing is changed, so no lock is needed.
		_, e := resolve(p.store.Tree(), from, false)
		switch {
		case e != api.OK:
			return end(e)
		case !ok:
			return end(api.ErrThere)
		}
		return end(api.ErrNotDir)
	}
	return p.change(func(t *tree.Tree) api.Errno {
		of, e := resolve(t, from, false)
		if e != api.OK {
			return e
		}
		in, e := resolve(t, head, true)
		if e != api.OK {
			return e
		}
		return t.Link(of, in, name)
	})
}

func (p *progress) rename(from, to path.Way) (Result, bool) {
	fromHead, name, ok := split(from)
	toHead, as, ok2 := split(to)
	if !ok || !ok2 {
		return end(api.ErrBusy)
	}
	return p.change(func(t *tree.Tree) api.Errno {
		a, e := resolve(t, fromHead, true)
		if e != api.OK {
			return e
		}
		b, e := resolve(t, toHead, true)
		if e != api.OK {
			return e
		}
		if (from.Dir || to.Dir) && other(t, a, name) {
			return api.ErrNotDir
		}
		_, e = t.Rename(a, name, b, as)
		return e
	})
}
