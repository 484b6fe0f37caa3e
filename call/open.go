package call

import (
	"gabion/api"
	"gabion/desc"
	"gabion/inode"
	"gabion/path"
	"gabion/tree"
)

const (
	descFlags = desc.Read | desc.Write | desc.Append
	allFlags  = descFlags | Create | Excl | Trunc
)

// has reports whether Open's N has a flag.
func (p *progress) has(flag int) bool {
	return p.call.N&flag != 0
}

// open starts an Open.
func (p *progress) open() (Result, bool) {
	if p.call.N&^allFlags != 0 || !p.has(descFlags) || p.has(desc.Append|Trunc) && !p.has(desc.Write) {
		return end(api.ErrInval)
	}
	w, e := path.Parse(p.call.Path)
	if e != api.OK {
		return end(e)
	}
	if len(p.tables.List(p.client)) == api.MaxFiles {
		return end(api.ErrFull)
	}
	head, name, ok := split(w)
	if !ok && p.has(Create) && p.has(Excl) {
		return end(api.ErrThere)
	}
	return p.need(func() (Result, bool) {
		if !ok || !p.has(Create) {
			return p.openOld(w)
		}
		return p.openNew(w, head, name)
	}, namesLock)
}

// openNew makes the file, unless its name exists.
func (p *progress) openNew(w, head path.Way, name string) (Result, bool) {
	t := p.store.Tree()
	in, e := resolve(t, head, true)
	if e != api.OK {
		return end(e)
	}
	_, e = t.Find(in, name)
	switch {
	case e == api.OK && p.has(Excl):
		return end(api.ErrThere)
	case e == api.OK:
		return p.openOld(w)
	case e != api.ErrNone:
		return end(e)
	case w.Dir:
		return end(api.ErrIsDir)
	}
	n := 0
	e = p.store.Do(func(t *tree.Tree) api.Errno {
		var e api.Errno
		n, e = t.Make(in, name, inode.Inode{Kind: inode.File})
		return e
	})
	if e != api.OK {
		return end(e)
	}
	return p.attach(n)
}

// openOld opens what there is.
func (p *progress) openOld(w path.Way) (Result, bool) {
	t := p.store.Tree()
	n, e := resolve(t, w, true)
	if e != api.OK {
		return end(e)
	}
	kind := kindOf(t, n)
	if kind == inode.Dir && p.has(desc.Write) {
		return end(api.ErrIsDir)
	}
	attach := func() (Result, bool) { return p.attach(n) }
	if kind == inode.File && p.has(Trunc) {
		return p.need(func() (Result, bool) { return p.resize(n, 0, attach) }, n)
	}
	return attach()
}

// attach opens an inode for the client.
func (p *progress) attach(n int) (Result, bool) {
	fd, e := p.tables.Add(p.client, n, p.call.N&descFlags)
	if e != api.OK {
		return end(e)
	}
	if e := p.store.Open(n); e != api.OK {
		p.tables.Close(p.client, fd)
		return end(e)
	}
	return Result{N: fd}, true
}
