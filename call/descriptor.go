package call

import (
	"gabion/api"
	"gabion/desc"
	"gabion/file"
)

// maxAt is how far a descriptor's offset may be set.
const maxAt = 1 << 62

// descriptor starts a call that names a descriptor.
func (p *progress) descriptor() (Result, bool) {
	o, e := p.tables.Get(p.client, p.call.Fd)
	if e != api.OK {
		return end(e)
	}
	if how := access(p.call.Kind); o.Flags&how != how {
		return end(api.ErrBad)
	}
	switch p.call.Kind {
	case Close:
		return p.need(p.close, namesLock)
	case Read, Pread:
		return p.need(func() (Result, bool) { return p.read(o) }, o.N)
	case Write, Pwrite:
		return p.need(func() (Result, bool) { return p.write(o) }, o.N)
	case Ftruncate:
		return p.need(func() (Result, bool) {
			return p.resize(o.N, p.call.N, func() (Result, bool) { return end(api.OK) })
		}, o.N)
	case Seek:
		return p.seek(o)
	case Fstat:
		return p.facts(o.N)
	}
	return end(api.OK) // Fsync: all lasts already
}

// access is how a descriptor must be open for a call.
func access(k Kind) int {
	switch k {
	case Read, Pread:
		return desc.Read
	case Write, Pwrite, Ftruncate:
		return desc.Write
	}
	return 0
}

func (p *progress) close() (Result, bool) {
	n, e := p.tables.Close(p.client, p.call.Fd)
	if e != api.OK {
		return end(e)
	}
	return end(p.store.Shut(n))
}

func (p *progress) read(o desc.Open) (Result, bool) {
	at := o.At
	if p.call.Kind == Pread {
		at = p.call.At
	}
	data, e := file.Read(p.store, o.N, at, p.call.N)
	if e != api.OK {
		return end(e)
	}
	if p.call.Kind == Read {
		p.tables.Seek(p.client, p.call.Fd, at+len(data))
	}
	return Result{Data: data}, true
}

func (p *progress) write(o desc.Open) (Result, bool) {
	at := o.At
	switch {
	case p.call.Kind == Pwrite:
		at = p.call.At
	case o.Flags&desc.Append != 0:
		at = p.size(o.N)
	}
	j, e := file.Write(p.store, o.N, at, p.call.Data)
	return p.run(j, e, func() (Result, bool) {
		if p.call.Kind == Write {
			p.tables.Seek(p.client, p.call.Fd, at+len(p.call.Data))
		}
		return Result{N: len(p.call.Data)}, true
	})
}

// size is that of an inode.
func (p *progress) size(n int) int {
	x, _ := p.store.Tree().Inode(n)
	return x.Size
}

func (p *progress) seek(o desc.Open) (Result, bool) {
	from := 0
	switch p.call.N {
	case 0:
	case 1:
		from = o.At
	case 2:
		from = p.size(o.N)
	default:
		return end(api.ErrInval)
	}
	if p.call.At < -from || p.call.At > maxAt-from {
		return end(api.ErrInval)
	}
	at := from + p.call.At
	if e := p.tables.Seek(p.client, p.call.Fd, at); e != api.OK {
		return end(e)
	}
	return Result{N: at}, true
}
