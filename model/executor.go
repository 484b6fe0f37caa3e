package model

import (
	"gabion/alloc"
	"gabion/api"
	"gabion/call"
	"gabion/desc"
	"gabion/ext"
	"gabion/inode"
	"gabion/path"
	"gabion/tree"
)

const (
	maxSize = 65536 * api.Line
	maxAt   = 1 << 62

	descFlags = desc.Read | desc.Write | desc.Append
	openFlags = descFlags | call.Create | call.Excl | call.Trunc
)

func hole(blocks int) ext.List {
	return ext.List{alloc.Extent{At: ext.Hole, Len: blocks}}
}

// executor makes a call.
type executor struct {
	*World
	client int
	call   call.Call
}

func fail(e api.Errno) call.Result {
	return call.Result{Err: e}
}

func (x *executor) run() call.Result {
	switch x.call.Kind {
	case call.Open:
		return x.open()
	case call.Close, call.Read, call.Write, call.Pread, call.Pwrite, call.Seek, call.Ftruncate, call.Fstat, call.Fsync:
		return x.onDescriptor()
	case call.Truncate, call.Readlink, call.Stat, call.Lstat, call.Readdir:
		return x.onInode()
	case call.Mkdir, call.Rmdir, call.Unlink, call.Symlink:
		return fail(x.onName())
	case call.Link, call.Rename:
		return fail(x.onNames())
	}
	return fail(api.ErrInval)
}

// walk resolves a way from the root.
func (x *executor) walk(w path.Way, last bool) (int, api.Errno) {
	return x.tree.Walk(tree.Root, w, last)
}

// last is a way's head and last part, if it has one.
func last(w path.Way) (path.Way, string, bool) {
	head, name, ok := w.Last()
	return head, name, ok && name != ".."
}

func (x *executor) facts(n int) call.Result {
	i, e := x.tree.Inode(n)
	if e != api.OK {
		return fail(e)
	}
	return call.Result{Facts: call.Facts{N: n, Kind: i.Kind, Links: i.Links, Size: i.Size}}
}

// open makes an Open.
func (x *executor) open() call.Result {
	has := func(flags int) bool { return x.call.N&flags != 0 }
	if has(^openFlags) || !has(descFlags) || has(desc.Append|call.Trunc) && !has(desc.Write) {
		return fail(api.ErrInval)
	}
	w, e := path.Parse(x.call.Path)
	if e != api.OK {
		return fail(e)
	}
	if len(x.tables.List(x.client)) >= api.MaxFiles {
		return fail(api.ErrFull)
	}
	n, made := 0, false
	if has(call.Create) {
		if n, made, e = x.create(w, has(call.Excl)); e != api.OK {
			return fail(e)
		}
	}
	if !made {
		if n, e = x.existing(w, has(desc.Write), has(call.Trunc)); e != api.OK {
			return fail(e)
		}
	}
	x.tree.Pin(n)
	fd, e := x.tables.Add(x.client, n, x.call.N&descFlags)
	return call.Result{Err: e, N: fd}
}

// create makes a File, unless the name exists, or there is none.
func (x *executor) create(w path.Way, excl bool) (int, bool, api.Errno) {
	head, name, ok := last(w)
	if ok {
		in, e := x.walk(head, true)
		if e != api.OK {
			return 0, false, e
		}
		if _, e := x.tree.Find(in, name); e == api.ErrNone {
			if w.Dir {
				return 0, false, api.ErrIsDir
			}
			n, e := x.tree.Make(in, name, inode.Inode{Kind: inode.File})
			return n, true, e
		}
	}
	if excl {
		return 0, false, api.ErrThere
	}
	return 0, false, api.OK
}

// existing is what a way leads to, to be opened.
func (x *executor) existing(w path.Way, write, trunc bool) (int, api.Errno) {
	n, e := x.walk(w, true)
	if e != api.OK {
		return 0, e
	}
	i, e := x.tree.Inode(n)
	switch {
	case e != api.OK:
		return 0, e
	case i.Kind == inode.Dir && write:
		return 0, api.ErrIsDir
	case i.Kind == inode.File && trunc:
		return n, x.resize(n, 0)
	}
	return n, api.OK
}

// onDescriptor makes a call that names a descriptor.
func (x *executor) onDescriptor() call.Result {
	o, e := x.tables.Get(x.client, x.call.Fd)
	if e != api.OK {
		return fail(e)
	}
	switch x.call.Kind {
	case call.Close:
		x.tables.Close(x.client, x.call.Fd)
		_, e := x.tree.Unpin(o.N)
		return fail(e)
	case call.Read, call.Pread:
		return x.readFrom(o)
	case call.Write, call.Pwrite:
		return x.writeTo(o)
	case call.Ftruncate:
		if o.Flags&desc.Write == 0 {
			return fail(api.ErrBad)
		}
		return fail(x.checkedResize(o.N))
	case call.Seek:
		return x.seek(o)
	case call.Fstat:
		return x.facts(o.N)
	}
	return call.Result{}
}

func (x *executor) readFrom(o desc.Open) call.Result {
	at := o.At
	if x.call.Kind == call.Pread {
		at = x.call.At
	}
	i, e := x.tree.Inode(o.N)
	switch {
	case o.Flags&desc.Read == 0:
		return fail(api.ErrBad)
	case e != api.OK:
		return fail(e)
	case i.Kind == inode.Dir:
		return fail(api.ErrIsDir)
	case at < 0 || x.call.N < 0:
		return fail(api.ErrInval)
	}
	data := x.read(o.N, at, x.call.N)
	if x.call.Kind == call.Read {
		x.tables.Seek(x.client, x.call.Fd, at+len(data))
	}
	return call.Result{Data: data}
}

func (x *executor) writeTo(o desc.Open) call.Result {
	at := o.At
	i, e := x.tree.Inode(o.N)
	if x.call.Kind == call.Pwrite {
		at = x.call.At
	} else if o.Flags&desc.Append != 0 {
		at = i.Size
	}
	switch {
	case o.Flags&desc.Write == 0:
		return fail(api.ErrBad)
	case e != api.OK:
		return fail(e)
	case at < 0:
		return fail(api.ErrInval)
	case at > maxSize || len(x.call.Data) > maxSize-at:
		return fail(api.ErrLong)
	}
	if e := x.write(o.N, at, x.call.Data); e != api.OK {
		return fail(e)
	}
	if x.call.Kind == call.Write {
		x.tables.Seek(x.client, x.call.Fd, at+len(x.call.Data))
	}
	return call.Result{N: len(x.call.Data)}
}

// checkedResize gives a File the size that the call names.
func (x *executor) checkedResize(n int) api.Errno {
	i, e := x.tree.Inode(n)
	switch {
	case e != api.OK:
		return e
	case i.Kind == inode.Dir:
		return api.ErrIsDir
	case x.call.N < 0:
		return api.ErrInval
	case x.call.N > maxSize:
		return api.ErrLong
	}
	return x.resize(n, x.call.N)
}

func (x *executor) seek(o desc.Open) call.Result {
	i, _ := x.tree.Inode(o.N)
	froms := [...]int{0, o.At, i.Size}
	if x.call.N < 0 || x.call.N >= len(froms) {
		return fail(api.ErrInval)
	}
	from := froms[x.call.N]
	if x.call.At < -from || x.call.At > maxAt-from {
		return fail(api.ErrInval)
	}
	e := x.tables.Seek(x.client, x.call.Fd, from+x.call.At)
	return call.Result{Err: e, N: from + x.call.At}
}

// onInode makes a call on what a path leads to.
func (x *executor) onInode() call.Result {
	w, e := path.Parse(x.call.Path)
	if e != api.OK {
		return fail(e)
	}
	n, e := x.walk(w, x.call.Kind != call.Readlink && x.call.Kind != call.Lstat)
	if e != api.OK {
		return fail(e)
	}
	switch x.call.Kind {
	case call.Truncate:
		return fail(x.checkedResize(n))
	case call.Readlink:
		i, _ := x.tree.Inode(n)
		if i.Kind != inode.Link {
			return fail(api.ErrInval)
		}
		return call.Result{Data: i.Target}
	case call.Readdir:
		l, e := x.tree.Names(n)
		r := fail(e)
		for _, y := range l {
			r.Names = append(r.Names, y.Name)
		}
		return r
	}
	return x.facts(n)
}

// onName makes or removes one name.
func (x *executor) onName() api.Errno {
	w, e := path.Parse(x.call.Path)
	if e != api.OK {
		return e
	}
	head, name, ok := last(w)
	if !ok {
		switch x.call.Kind {
		case call.Rmdir:
			return api.ErrBusy
		case call.Unlink:
			return api.ErrIsDir
		}
		return api.ErrThere
	}
	if x.call.Kind == call.Symlink && w.Dir {
		return api.ErrNotDir
	}
	in, e := x.walk(head, true)
	if e != api.OK {
		return e
	}
	switch x.call.Kind {
	case call.Mkdir:
		_, e = x.tree.Make(in, name, inode.Inode{Kind: inode.Dir})
	case call.Symlink:
		_, e = x.tree.Make(in, name, inode.Inode{Kind: inode.Link, Size: len(x.call.To), Target: x.call.To})
	case call.Rmdir:
		e = x.tree.Rmdir(in, name)
	case call.Unlink:
		if w.Dir && x.isOther(in, name) {
			return api.ErrNotDir
		}
		_, e = x.tree.Unlink(in, name)
	}
	return e
}

// isOther reports whether a name exists, and is not that of a Dir.
func (x *executor) isOther(in int, name string) bool {
	n, e := x.tree.Find(in, name)
	if e != api.OK {
		return false
	}
	i, _ := x.tree.Inode(n)
	return i.Kind != inode.Dir
}

// onNames makes a Link or a Rename.
func (x *executor) onNames() api.Errno {
	from, e := path.Parse(x.call.Path)
	if e != api.OK {
		return e
	}
	to, e := path.Parse(x.call.To)
	if e != api.OK {
		return e
	}
	if x.call.Kind == call.Link {
		return x.link(from, to)
	}
	return x.rename(from, to)
}

func (x *executor) link(from, to path.Way) api.Errno {
	of, e := x.walk(from, false)
	if e != api.OK {
		return e
	}
	head, name, ok := last(to)
	if !ok {
		return api.ErrThere
	}
	if to.Dir {
		return api.ErrNotDir
	}
	in, e := x.walk(head, true)
	if e != api.OK {
		return e
	}
	return x.tree.Link(of, in, name)
}

func (x *executor) rename(from, to path.Way) api.Errno {
	fromHead, name, ok := last(from)
	toHead, as, ok2 := last(to)
	if !ok || !ok2 {
		return api.ErrBusy
	}
	a, e := x.walk(fromHead, true)
	if e != api.OK {
		return e
	}
	b, e := x.walk(toHead, true)
	if e != api.OK {
		return e
	}
	if (from.Dir || to.Dir) && x.isOther(a, name) {
		return api.ErrNotDir
	}
	_, e = x.tree.Rename(a, name, b, as)
	return e
}
