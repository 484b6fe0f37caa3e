package call

import (
	"gabion/api"
	"gabion/file"
	"gabion/inode"
	"gabion/path"
	"gabion/tree"
)

// namesLock is held by calls that change names, or that resolve a path in order to change a file.
const namesLock = 0

// step is a step of a call: its result, and whether it is over.
type step func() (Result, bool)

// progress is a call in progress.
type progress struct {
	*System
	client int
	call   Call
	next   step
	waits  bool
}

// end ends a call with an error, or with nothing to tell.
func end(e api.Errno) (Result, bool) {
	return Result{Err: e}, true
}

// start is the first step of each call.
func (p *progress) start() (Result, bool) {
	switch p.call.Kind {
	case Open:
		return p.open()
	case Close, Read, Write, Pread, Pwrite, Seek, Ftruncate, Fstat, Fsync:
		return p.descriptor()
	case Truncate, Mkdir, Rmdir, Unlink, Symlink, Readlink, Stat, Lstat, Readdir:
		return p.onePath()
	case Link, Rename:
		return p.twoPaths()
	}
	return end(api.ErrInval)
}

// need requests locks, acquires the first one, and goes on with the step then when the client has them.
func (p *progress) need(then step, locks ...int) (Result, bool) {
	if e := p.locks.Ask(p.client, locks...); e != api.OK {
		return end(e)
	}
	p.next = func() (Result, bool) { return p.take(then) }
	return p.next()
}

// take acquires the next lock.
func (p *progress) take(then step) (Result, bool) {
	p.waits = p.locks.Waits(p.client) >= 0
	all, e := p.locks.Step(p.client)
	if e != api.OK {
		return end(e)
	}
	if all {
		p.next = then
	}
	return Result{}, false
}

// run goes on with the steps of a job; the last one tells the result.
func (p *progress) run(j *file.Job, e api.Errno, result step) (Result, bool) {
	if e != api.OK {
		return end(e)
	}
	p.next = func() (Result, bool) {
		done, e := j.Step()
		if e != api.OK {
			return end(e)
		}
		if done {
			return result()
		}
		return Result{}, false
	}
	return Result{}, false
}

// resize goes on with the job that gives a file another size.
func (p *progress) resize(n, size int, result step) (Result, bool) {
	j, e := file.Resize(p.store, n, size)
	return p.run(j, e, result)
}

// change changes names, with their lock.
func (p *progress) change(f func(t *tree.Tree) api.Errno) (Result, bool) {
	return p.need(func() (Result, bool) { return end(p.store.Do(f)) }, namesLock)
}

// facts tells what is known of an inode.
func (p *progress) facts(n int) (Result, bool) {
	x, e := p.store.Tree().Inode(n)
	if e != api.OK {
		return end(e)
	}
	return Result{Facts: Facts{N: n, Kind: x.Kind, Links: x.Links, Size: x.Size}}, true
}

// kindOf is that of an inode of a tree.
func kindOf(t *tree.Tree, n int) inode.Kind {
	x, _ := t.Inode(n)
	return x.Kind
}

// resolve is where a way leads from the root, following a Link as the last part or not.
func resolve(t *tree.Tree, w path.Way, last bool) (int, api.Errno) {
	return t.Walk(tree.Root, w, last)
}

// split is the head and the last part of a way, if it has one.
func split(w path.Way) (path.Way, string, bool) {
	head, name, ok := w.Last()
	return head, name, ok && name != ".."
}
