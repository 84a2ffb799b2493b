package heap

import (
	"pluginhost/api"
	"pluginhost/handle"
	"pluginhost/layout"
	"pluginhost/sizeclass"
)

// Alloc allocates an object of the type with this tag, whose bytes are 0, in a slot that the draw chooses. It returns ErrPlugin, ErrLog, ErrType, ErrQuota, ErrSlots or ErrArena.
func (h *Heap) Alloc(p, tag int, draw uint64) (api.Handle, api.Errno) {
	if e := h.admit(p); e != api.OK {
		return 0, e
	}
	o, e := h.alloc(p, tag, draw)
	h.note(api.Event{Plugin: p, Op: api.OpAlloc, Handle: o, Arg: uint64(tag), Err: e})
	return o, e
}

// Free frees an object of p. It returns the errors of an operation and of access.
func (h *Heap) Free(p int, o api.Handle) api.Errno {
	ev := api.Event{Plugin: p, Op: api.OpFree, Handle: o}
	return h.record(ev, func() api.Errno { return h.free(p, o) })
}

// Get returns the number in a field. It returns the errors of access, ErrAbsent if there is no such field, or ErrKind if it contains no number.
func (h *Heap) Get(p int, o api.Handle, field int) (uint64, api.Errno) {
	v := uint64(0)
	ev := api.Event{Plugin: p, Op: api.OpGet, Handle: o, Arg: uint64(field)}
	e := h.observe(ev, func() (e api.Errno) {
		v, e = h.get(p, o, field)
		return e
	})
	return v, e
}

// Set stores a number in a field. It returns the errors of an operation and of Get, or ErrValue if the field has too few bytes.
func (h *Heap) Set(p int, o api.Handle, field int, v uint64) api.Errno {
	ev := api.Event{Plugin: p, Op: api.OpSet, Handle: o, Arg: uint64(field)}
	return h.record(ev, func() api.Errno { return h.set(p, o, field, v) })
}

// Load returns n bytes of an object. It returns the errors of access, ErrArg if n is negative, or ErrBounds.
func (h *Heap) Load(p int, o api.Handle, off, n int) ([]byte, api.Errno) {
	var b []byte
	ev := api.Event{Plugin: p, Op: api.OpLoad, Handle: o, Arg: uint64(off)}
	e := h.observe(ev, func() (e api.Errno) {
		b, e = h.load(p, o, off, n)
		return e
	})
	return b, e
}

// Store stores bytes in an object. It returns the errors of an operation and of access, or ErrBounds.
func (h *Heap) Store(p int, o api.Handle, off int, b []byte) api.Errno {
	ev := api.Event{Plugin: p, Op: api.OpStore, Handle: o, Arg: uint64(off)}
	return h.record(ev, func() api.Errno { return h.store(p, o, off, b) })
}

// Copy copies n bytes of an object to another one, or within one. It returns the errors of an operation, of access to dst, and of access to src, ErrArg if n is negative, or ErrBounds.
func (h *Heap) Copy(p int, dst api.Handle, to int, src api.Handle, from, n int) api.Errno {
	ev := api.Event{Plugin: p, Op: api.OpCopy, Handle: dst, Arg: uint64(src)}
	return h.record(ev, func() api.Errno { return h.copy(p, dst, to, src, from, n) })
}

// Transfer gives an object of p to q. It returns the errors of an operation and of access, ErrPlugin if q cannot get it, or ErrQuota.
func (h *Heap) Transfer(p int, o api.Handle, q int) api.Errno {
	ev := api.Event{Plugin: p, Op: api.OpTransfer, Handle: o, Arg: uint64(q)}
	return h.record(ev, func() api.Errno { return h.transfer(p, o, q) })
}

// Share lends an object of p to q as Shared. The errors are those of Transfer.
func (h *Heap) Share(p int, o api.Handle, q int) api.Errno {
	ev := api.Event{Plugin: p, Op: api.OpShare, Handle: o, Arg: uint64(q)}
	return h.record(ev, func() api.Errno { return h.lend(p, o, q, api.Grant, api.Shared) })
}

// Lend lends an object of p to q as Exclusive. The errors are those of Transfer.
func (h *Heap) Lend(p int, o api.Handle, q int) api.Errno {
	ev := api.Event{Plugin: p, Op: api.OpLend, Handle: o, Arg: uint64(q)}
	return h.record(ev, func() api.Errno { return h.lend(p, o, q, api.Own, api.Exclusive) })
}

// Release gives a borrow back. It returns the errors of an operation and of handletab.Resolve, or ErrForeign if p holds no borrow of the object.
func (h *Heap) Release(p int, o api.Handle) api.Errno {
	ev := api.Event{Plugin: p, Op: api.OpRelease, Handle: o}
	return h.record(ev, func() api.Errno { return h.release(p, o) })
}

// admit returns ErrPlugin if p is not alive, or ErrLog, which counts as missed, if the log has no room for an operation of it.
func (h *Heap) admit(p int) api.Errno {
	if !h.Alive(p) {
		return api.ErrPlugin
	}
	if !h.log.Room(p) {
		h.log.Miss(p)
		return api.ErrLog
	}
	return api.OK
}

// record performs an operation, appends its event, and returns its error, which is that of admit if it is not performed.
func (h *Heap) record(ev api.Event, operation func() api.Errno) api.Errno {
	if e := h.admit(ev.Plugin); e != api.OK {
		return e
	}
	ev.Err = operation()
	h.note(ev)
	return ev.Err
}

// observe performs an operation that needs no room in the log, as it is only noted if it fails, and returns its error.
func (h *Heap) observe(ev api.Event, operation func() api.Errno) api.Errno {
	if !h.Alive(ev.Plugin) {
		return api.ErrPlugin
	}
	if ev.Err = operation(); ev.Err != api.OK {
		h.note(ev)
	}
	return ev.Err
}

func (h *Heap) alloc(p, tag int, draw uint64) (api.Handle, api.Errno) {
	t, e := h.types.Lookup(tag)
	if e != api.OK {
		return 0, e
	}
	// Registered types are correct, so they have a size, which has a class.
	size, _ := layout.Size(t)
	length, _ := sizeclass.Round(size)
	if e := h.meter.Fits(p, cost(length)); e != api.OK {
		return 0, e
	}
	if h.table.Full() {
		return 0, api.ErrSlots
	}
	at, e := h.arena.Alloc(size)
	if e != api.OK {
		return 0, e
	}
	h.meter.Add(p, cost(length))
	return h.table.Issue(p, tag, at, draw)
}

func (h *Heap) free(p int, o api.Handle) api.Errno {
	x, e := h.access(p, o, api.Own)
	if e != api.OK {
		return e
	}
	h.discard(x)
	return api.OK
}

func (h *Heap) get(p int, o api.Handle, field int) (uint64, api.Errno) {
	at, place, e := h.number(p, o, field, api.Read)
	if e != api.OK {
		return 0, e
	}
	return h.arena.Load(at, place.Off, place.Len)
}

func (h *Heap) set(p int, o api.Handle, field int, v uint64) api.Errno {
	at, place, e := h.number(p, o, field, api.Write)
	if e != api.OK {
		return e
	}
	return h.arena.Store(at, place.Off, place.Len, v)
}

func (h *Heap) load(p int, o api.Handle, off, n int) ([]byte, api.Errno) {
	x, e := h.access(p, o, api.Read)
	switch {
	case e != api.OK:
		return nil, e
	case n < 0:
		return nil, api.ErrArg
	case !h.within(x, off, n):
		return nil, api.ErrBounds
	}
	return h.arena.Read(x.At, off, n)
}

func (h *Heap) store(p int, o api.Handle, off int, b []byte) api.Errno {
	x, e := h.access(p, o, api.Write)
	if e != api.OK {
		return e
	}
	if !h.within(x, off, len(b)) {
		return api.ErrBounds
	}
	return h.arena.Write(x.At, off, b)
}

func (h *Heap) copy(p int, dst api.Handle, to int, src api.Handle, from, n int) api.Errno {
	x, e := h.access(p, dst, api.Write)
	if e != api.OK {
		return e
	}
	y, e := h.access(p, src, api.Read)
	switch {
	case e != api.OK:
		return e
	case n < 0:
		return api.ErrArg
	case !h.within(x, to, n) || !h.within(y, from, n):
		return api.ErrBounds
	}
	return h.arena.Copy(x.At, to, y.At, from, n)
}

func (h *Heap) transfer(p int, o api.Handle, q int) api.Errno {
	x, e := h.access(p, o, api.Own)
	if e != api.OK {
		return e
	}
	if !h.isOther(p, q) {
		return api.ErrPlugin
	}
	if e := h.meter.Add(q, cost(x.At.Len)); e != api.OK {
		return e
	}
	h.meter.Sub(p, cost(x.At.Len))
	return h.table.Give(o, q)
}

// lend lends an object in a mode for which p needs this access.
func (h *Heap) lend(p int, o api.Handle, q, access, mode int) api.Errno {
	if _, e := h.access(p, o, access); e != api.OK {
		return e
	}
	if !h.isOther(p, q) {
		return api.ErrPlugin
	}
	slot := handle.Slot(o)
	if _, held := h.lent.Holds(slot, q); !held {
		if e := h.meter.Add(q, oneBorrow()); e != api.OK {
			return e
		}
	}
	return h.lent.Lend(slot, q, mode)
}

func (h *Heap) release(p int, o api.Handle) api.Errno {
	if _, e := h.table.Resolve(o); e != api.OK {
		return e
	}
	slot := handle.Slot(o)
	if e := h.lent.Release(slot, p); e != api.OK {
		return e
	}
	if _, held := h.lent.Holds(slot, p); !held {
		h.meter.Sub(p, oneBorrow())
	}
	return api.OK
}

// access returns what the handle table knows of the object of a word that p may use in this way. It returns the errors of handletab.Resolve, and then those of borrow.Access.
func (h *Heap) access(p int, o api.Handle, access int) (api.Entry, api.Errno) {
	x, e := h.table.Resolve(o)
	if e != api.OK {
		return api.Entry{}, e
	}
	if e := h.lent.Access(handle.Slot(o), p, x.Owner == p, access); e != api.OK {
		return api.Entry{}, e
	}
	return x, api.OK
}

// number returns the extent of an object that p may use in this way, and where the number in a field of it lies. It returns the errors of access, ErrAbsent, or ErrKind.
func (h *Heap) number(p int, o api.Handle, field, access int) (api.Extent, api.Place, api.Errno) {
	x, e := h.access(p, o, access)
	if e != api.OK {
		return api.Extent{}, api.Place{}, e
	}
	// Types stay registered, so there is one with the tag of an object.
	t, _ := h.types.Lookup(x.Tag)
	place, e := layout.Place(t, field)
	if e != api.OK {
		return api.Extent{}, api.Place{}, e
	}
	if place.Kind == api.String {
		return api.Extent{}, api.Place{}, api.ErrKind
	}
	return x.At, place, api.OK
}

// discard ends an object and the borrows of it, and takes them from those who have them.
func (h *Heap) discard(x api.Entry) {
	for _, b := range h.lent.EndObject(handle.Slot(x.Handle)) {
		h.meter.Sub(b.Holder, oneBorrow())
	}
	h.meter.Sub(x.Owner, cost(x.At.Len))
	h.arena.Free(x.At)
	h.table.Drop(x.Handle)
}

// size returns the number of bytes that the type of an object has. Its extent may be longer.
func (h *Heap) size(x api.Entry) int {
	t, _ := h.types.Lookup(x.Tag)
	n, _ := layout.Size(t)
	return n
}

// within reports whether n bytes from the offset off on, where n is not negative, lie within the size of the type of an object. It compares with a difference, since off + n may wrap around.
func (h *Heap) within(x api.Entry, off, n int) bool { return off >= 0 && off <= h.size(x)-n }

// isOther reports whether q is a plugin to which p can give or lend an object.
func (h *Heap) isOther(p, q int) bool { return q != p && h.Alive(q) }

// cost returns what the owner of an object with an extent of this length has for it.
func cost(length int) api.Quota { return api.Quota{Bytes: length, Objects: 1} }

// oneBorrow returns what the holder of a borrow has for it.
func oneBorrow() api.Quota { return api.Quota{Borrows: 1} }
