package heap

import (
	"bytes"
	"math"
	"reflect"
	"slices"
	"testing"

	"pluginhost/api"
	"pluginhost/audit"
	"pluginhost/layout"
	"pluginhost/sizeclass"
)

// noDigest is the digest of no bytes.
const noDigest = 14695981039346656037

// word returns the word with these parts, each of which must fit its bits.
func word(slot, gen, tag int) api.Handle {
	return api.Handle(slot) + api.Handle(gen)<<24 + api.Handle(tag)<<56
}

// loan is a single time that an object was lent.
type loan struct{ holder, mode int }

// object is a live object, which the model keeps by its slot.
type object struct {
	gen, tag, owner int
	at              api.Extent
	bytes           []byte
	loans           []loan
}

// lends reports whether the object is lent in this mode, or in any mode if it is 0, to this holder, or to anyone if it is 0.
func (x *object) lends(holder, mode int) bool {
	return slices.ContainsFunc(x.loans, func(l loan) bool {
		return (holder == 0 || l.holder == holder) && (mode == 0 || l.mode == mode)
	})
}

// model does what the document says. It counts what plugins have whenever it is asked.
type model struct {
	c       api.Config
	types   []api.Type
	free    []int
	gens    []int // of the slots: the live one, or the next one
	retired int
	objects map[int]*object
	started map[int]bool // whether a plugin that was started is alive
	events  []api.Event
	missed  map[int]int
	issued  []api.Handle
}

func newModel(c api.Config) *model {
	m := &model{c: c, objects: map[int]*object{}, started: map[int]bool{}, missed: map[int]int{}}
	for slot := range c.Slots {
		m.free, m.gens = append(m.free, slot), append(m.gens, int(c.FirstGen))
	}
	return m
}

// zeroModel is the model of a nil or zero Heap.
func zeroModel() *model {
	m := newModel(api.Config{})
	for p := range 64 {
		m.started[p+1] = false
	}
	return m
}

// call is a call of one of the methods that change a heap or can be refused. The numbers are the further arguments in their order.
type call struct {
	op, p   int
	o, src  api.Handle
	numbers [3]int
	v       uint64
	b       []byte
	t       api.Type
}

// define is the op of a call of Define. The other ops are those of package api.
const define = 64

func start(p int) call { return call{op: api.EvStart, p: p} }

func end(p int) call { return call{op: api.EvEnd, p: p} }

func alloc(p, tag int, draw uint64) call {
	return call{op: api.OpAlloc, p: p, numbers: [3]int{tag}, v: draw}
}

func free(p int, o api.Handle) call { return call{op: api.OpFree, p: p, o: o} }

func get(p int, o api.Handle, field int) call {
	return call{op: api.OpGet, p: p, o: o, numbers: [3]int{field}}
}

func set(p int, o api.Handle, field int, v uint64) call {
	return call{op: api.OpSet, p: p, o: o, numbers: [3]int{field}, v: v}
}

func load(p int, o api.Handle, off, n int) call {
	return call{op: api.OpLoad, p: p, o: o, numbers: [3]int{off, n}}
}

func store(p int, o api.Handle, off int, b ...byte) call {
	return call{op: api.OpStore, p: p, o: o, numbers: [3]int{off}, b: b}
}

func copies(p int, dst api.Handle, to int, src api.Handle, from, n int) call {
	return call{op: api.OpCopy, p: p, o: dst, src: src, numbers: [3]int{to, from, n}}
}

func transfer(p int, o api.Handle, q int) call {
	return call{op: api.OpTransfer, p: p, o: o, numbers: [3]int{q}}
}

func share(p int, o api.Handle, q int) call {
	return call{op: api.OpShare, p: p, o: o, numbers: [3]int{q}}
}

func lend(p int, o api.Handle, q int) call {
	return call{op: api.OpLend, p: p, o: o, numbers: [3]int{q}}
}

func release(p int, o api.Handle) call { return call{op: api.OpRelease, p: p, o: o} }

// operations returns every operation but Alloc, by a plugin on an object, with a first byte, first field, or another plugin q.
func operations(p int, o api.Handle, q int) []call {
	return []call{free(p, o), get(p, o, 0), set(p, o, 0, 1), load(p, o, 0, 1), store(p, o, 0, 2), copies(p, o, 0, o, 0, 1), transfer(p, o, q), share(p, o, q), lend(p, o, q), release(p, o)}
}

// result is what a call returns.
type result struct {
	n int
	o api.Handle
	v uint64
	b string
	e api.Errno
}

// on performs a call on a heap.
func (c call) on(h *Heap) result {
	x := c.numbers
	switch c.op {
	case define:
		n, e := h.Define(c.t)
		return result{n: n, e: e}
	case api.EvStart:
		return result{e: h.Start(c.p)}
	case api.EvEnd:
		n, e := h.End(c.p)
		return result{n: n, e: e}
	case api.OpAlloc:
		o, e := h.Alloc(c.p, x[0], c.v)
		return result{o: o, e: e}
	case api.OpFree:
		return result{e: h.Free(c.p, c.o)}
	case api.OpGet:
		v, e := h.Get(c.p, c.o, x[0])
		return result{v: v, e: e}
	case api.OpSet:
		return result{e: h.Set(c.p, c.o, x[0], c.v)}
	case api.OpLoad:
		b, e := h.Load(c.p, c.o, x[0], x[1])
		return result{b: string(b), e: e}
	case api.OpStore:
		return result{e: h.Store(c.p, c.o, x[0], c.b)}
	case api.OpCopy:
		return result{e: h.Copy(c.p, c.o, x[0], c.src, x[1], x[2])}
	case api.OpTransfer:
		return result{e: h.Transfer(c.p, c.o, x[0])}
	case api.OpShare:
		return result{e: h.Share(c.p, c.o, x[0])}
	case api.OpLend:
		return result{e: h.Lend(c.p, c.o, x[0])}
	}
	return result{e: h.Release(c.p, c.o)}
}

// perform performs a call on the model.
func (m *model) perform(c call) result {
	switch c.op {
	case define:
		return m.define(c.t)
	case api.EvStart:
		return m.start(c.p)
	case api.EvEnd:
		return m.end(c.p)
	}
	recorded := c.op != api.OpGet && c.op != api.OpLoad
	room := m.usage(c.p).Records < m.c.Log
	switch {
	case !m.started[c.p]:
		return result{e: api.ErrPlugin}
	case recorded && !room:
		m.missed[c.p]++
		return result{e: api.ErrLog}
	}
	r := m.operation(c)
	ev := api.Event{Plugin: c.p, Op: c.op, Handle: c.o, Err: r.e}
	switch c.op {
	case api.OpAlloc:
		ev.Handle, ev.Arg = r.o, uint64(c.numbers[0])
	case api.OpCopy:
		ev.Arg = uint64(c.src)
	case api.OpFree, api.OpRelease:
	default:
		ev.Arg = uint64(c.numbers[0])
	}
	switch {
	case !recorded && r.e == api.OK:
	case room:
		m.events = append(m.events, ev)
	default:
		m.missed[c.p]++
	}
	return r
}

func (m *model) define(t api.Type) result {
	if e := layout.Check(t); e != api.OK {
		return result{e: e}
	}
	i := slices.IndexFunc(m.types, func(x api.Type) bool { return x.Len == t.Len && slices.Equal(x.Fields, t.Fields) })
	switch {
	case i >= 0:
		return result{n: i + 1}
	case len(m.types) == 255 || m.c.Frames == 0:
		return result{e: api.ErrBig}
	}
	m.types = append(m.types, t)
	return result{n: len(m.types)}
}

func (m *model) start(p int) result {
	if p < 1 || p > 64 {
		return result{e: api.ErrPlugin}
	}
	if _, was := m.started[p]; was {
		return result{e: api.ErrState}
	}
	m.started[p] = true
	m.events = append(m.events, api.Event{Plugin: p, Op: 32})
	return result{}
}

func (m *model) end(p int) result {
	if !m.started[p] {
		return result{e: api.ErrPlugin}
	}
	n := 0
	for slot := range m.c.Slots {
		x := m.objects[slot]
		switch {
		case x == nil:
		case x.owner == p:
			m.drop(slot)
			n++
		default:
			x.loans = slices.DeleteFunc(x.loans, func(l loan) bool { return l.holder == p })
		}
	}
	m.started[p] = false
	m.events = append(m.events, api.Event{Plugin: p, Op: 33, Arg: uint64(n)})
	return result{n: n}
}

// drop ends an object.
func (m *model) drop(slot int) {
	delete(m.objects, slot)
	if m.gens[slot] == 1<<32-1 {
		m.retired++
	} else {
		m.free = append(m.free, slot)
	}
	m.gens[slot]++
}

// operation performs an operation of a plugin that is alive and has room in the log if it needs it.
func (m *model) operation(c call) result {
	slot := int(c.o % (1 << 24))
	switch c.op {
	case api.OpAlloc:
		return m.alloc(c.p, c.numbers[0], c.v)
	case api.OpRelease:
		return result{e: m.release(c.p, c.o)}
	}
	access := map[int]int{api.OpFree: api.Own, api.OpGet: api.Read, api.OpLoad: api.Read, api.OpSet: api.Write, api.OpStore: api.Write, api.OpCopy: api.Write, api.OpTransfer: api.Own, api.OpShare: api.Grant, api.OpLend: api.Own}[c.op]
	if e := m.access(c.p, c.o, access); e != api.OK {
		return result{e: e}
	}
	x, q := m.objects[slot], c.numbers[0]
	switch c.op {
	case api.OpFree:
		m.drop(slot)
		return result{}
	case api.OpGet, api.OpSet:
		return m.number(x, c)
	case api.OpLoad:
		return x.load(c.numbers[0], c.numbers[1])
	case api.OpStore:
		return result{e: x.store(c.numbers[0], c.b)}
	case api.OpCopy:
		return result{e: m.copy(x, c)}
	}
	if !m.started[q] || q == c.p {
		return result{e: api.ErrPlugin}
	}
	if c.op == api.OpTransfer {
		return result{e: m.transfer(x, q)}
	}
	return result{e: m.lend(x, q, c.op-api.OpShare+api.Shared)}
}

func (m *model) alloc(p, tag int, draw uint64) result {
	if tag < 1 || tag > len(m.types) {
		return result{e: api.ErrType}
	}
	size, _ := layout.Size(m.types[tag-1])
	length, _ := sizeclass.Round(size)
	at, found := m.choose(length)
	switch has := m.usage(p); {
	case has.Objects+1 > m.c.Quota.Objects || has.Bytes+length > m.c.Quota.Bytes:
		return result{e: api.ErrQuota}
	case len(m.free) == 0:
		return result{e: api.ErrSlots}
	case !found:
		return result{e: api.ErrArena}
	}
	i, last := draw%uint64(len(m.free)), len(m.free)-1
	slot := m.free[i]
	m.free[i] = m.free[last]
	m.free = m.free[:last]
	m.objects[slot] = &object{gen: m.gens[slot], tag: tag, owner: p, at: at, bytes: make([]byte, size)}
	o := word(slot, m.gens[slot], tag)
	m.issued = append(m.issued, o)
	return result{o: o}
}

// gaps returns the free extents.
func (m *model) gaps() []api.Extent {
	var list []api.Extent
	used := make([]bool, m.c.Arena+1)
	used[m.c.Arena] = true
	for _, x := range m.objects {
		for i := range x.at.Len {
			used[x.at.Off+i] = true
		}
	}
	from := 0
	for i, u := range used {
		if u {
			if from < i {
				list = append(list, api.Extent{Off: from, Len: i - from})
			}
			from = i + 1
		}
	}
	return list
}

// choose returns the extent that is allocated for this length, and whether there is one.
func (m *model) choose(length int) (api.Extent, bool) {
	best := api.Extent{Len: math.MaxInt}
	for _, e := range m.gaps() {
		if e.Len >= length && e.Len < best.Len {
			best = e
		}
	}
	return api.Extent{Off: best.Off, Len: length}, best.Len < math.MaxInt
}

func (m *model) resolve(o api.Handle) api.Errno {
	slot, gen, tag := int(o%(1<<24)), int(o>>24%(1<<32)), int(o>>56)
	switch x := m.objects[slot]; {
	case slot >= m.c.Slots:
		return api.ErrSlot
	case x == nil || x.gen != gen:
		return api.ErrStale
	case x.tag != tag:
		return api.ErrTag
	}
	return api.OK
}

func (m *model) access(p int, o api.Handle, access int) api.Errno {
	if e := m.resolve(o); e != api.OK {
		return e
	}
	x := m.objects[int(o%(1<<24))]
	owning := access == api.Own || access == api.Grant
	if x.owner != p {
		switch {
		case owning || !x.lends(p, 0):
			return api.ErrForeign
		case x.lends(p, api.Shared) && access == api.Write:
			return api.ErrBorrow
		}
		return api.OK
	}
	if x.lends(0, api.Exclusive) || x.lends(0, api.Shared) && access != api.Read && access != api.Grant {
		return api.ErrBorrow
	}
	return api.OK
}

func (m *model) number(x *object, c call) result {
	place, e := layout.Place(m.types[x.tag-1], c.numbers[0])
	switch {
	case e != api.OK:
		return result{e: api.ErrAbsent}
	case place.Kind == api.String:
		return result{e: api.ErrKind}
	}
	number := [8]byte{}
	if c.op == api.OpGet {
		copy(number[:], x.bytes[place.Off:place.Off+place.Len])
		v := uint64(0)
		for i := range number {
			v = v*256 + uint64(number[7-i])
		}
		return result{v: v}
	}
	for i := range number {
		number[i] = byte(c.v >> (8 * i))
		if i >= place.Len && number[i] != 0 {
			return result{e: api.ErrValue}
		}
	}
	copy(x.bytes[place.Off:place.Off+place.Len], number[:])
	return result{}
}

// within reports whether the bytes from off on lie within the object, which is never longer than MaxObject.
func (x *object) within(off, n int) bool {
	return off >= 0 && off <= len(x.bytes) && n <= len(x.bytes) && off+n <= len(x.bytes)
}

func (x *object) load(off, n int) result {
	switch {
	case n < 0:
		return result{e: api.ErrArg}
	case !x.within(off, n):
		return result{e: api.ErrBounds}
	}
	return result{b: string(x.bytes[off : off+n])}
}

func (x *object) store(off int, b []byte) api.Errno {
	if !x.within(off, len(b)) {
		return api.ErrBounds
	}
	copy(x.bytes[off:], b)
	return api.OK
}

func (m *model) copy(x *object, c call) api.Errno {
	if e := m.access(c.p, c.src, api.Read); e != api.OK {
		return e
	}
	r := m.objects[int(c.src%(1<<24))].load(c.numbers[1], c.numbers[2])
	if r.e == api.ErrArg {
		return r.e
	}
	if r.e != api.OK || !x.within(c.numbers[0], c.numbers[2]) {
		return api.ErrBounds
	}
	return x.store(c.numbers[0], []byte(r.b))
}

func (m *model) transfer(x *object, q int) api.Errno {
	if has := m.usage(q); has.Objects+1 > m.c.Quota.Objects || has.Bytes+x.at.Len > m.c.Quota.Bytes {
		return api.ErrQuota
	}
	x.owner = q
	return api.OK
}

func (m *model) lend(x *object, q, mode int) api.Errno {
	if !x.lends(q, 0) && m.usage(q).Borrows+1 > m.c.Quota.Borrows {
		return api.ErrQuota
	}
	x.loans = append(x.loans, loan{q, mode})
	return api.OK
}

func (m *model) release(p int, o api.Handle) api.Errno {
	if e := m.resolve(o); e != api.OK {
		return e
	}
	x := m.objects[int(o%(1<<24))]
	i := slices.IndexFunc(x.loans, func(l loan) bool { return l.holder == p })
	if i < 0 {
		return api.ErrForeign
	}
	x.loans = slices.Delete(x.loans, i, i+1)
	return api.OK
}

// usage returns what a plugin has: P18.14.
func (m *model) usage(p int) api.Usage {
	u := api.Usage{Missed: m.missed[p]}
	for _, x := range m.objects {
		if x.owner == p {
			u.Bytes += x.at.Len
			u.Objects++
		}
		if p != 0 && x.lends(p, 0) {
			u.Borrows++
		}
	}
	for _, ev := range m.events {
		if ev.Plugin == p && ev.Op <= 11 {
			u.Records++
		}
	}
	return u
}

// list returns what Objects must yield.
func (m *model) list() []api.Object {
	var list []api.Object
	for slot := range m.c.Slots {
		x := m.objects[slot]
		if x == nil {
			continue
		}
		var borrows []api.Borrow
		for holder := 1; holder <= 64; holder++ {
			b := api.Borrow{Object: slot, Holder: holder}
			for _, l := range x.loans {
				if l.holder == holder {
					b.Mode = l.mode
					b.Count++
				}
			}
			if b.Count > 0 {
				borrows = append(borrows, b)
			}
		}
		list = append(list, api.Object{Handle: word(slot, x.gen, x.tag), Owner: x.owner, At: x.at, Bytes: slices.Clone(x.bytes), Borrows: borrows})
	}
	return list
}

// same reports whether two lists of objects are equal.
func same(got, want []api.Object) bool {
	return slices.EqualFunc(got, want, func(x, y api.Object) bool {
		return x.Handle == y.Handle && x.Owner == y.Owner && x.At == y.At && bytes.Equal(x.Bytes, y.Bytes) && slices.Equal(x.Borrows, y.Borrows)
	})
}

// events returns what Events yields, where the indexes must be 0, 1 and so on.
func events(t *testing.T, h *Heap) []api.Event {
	t.Helper()
	var list []api.Event
	for i, ev := range h.Events() {
		if i != len(list) {
			t.Errorf("Events: got the index %d, want %d", i, len(list))
		}
		list = append(list, ev)
	}
	return list
}

// numbers are numbers of plugins, and others.
func numbers() []int {
	return []int{math.MinInt, -1, 0, 1, 2, 3, 4, 63, 64, 65, 66, math.MaxInt}
}

// check compares all that can be seen of a heap with the model.
func (m *model) check(t *testing.T, h *Heap) {
	t.Helper()
	if got, want := slices.Collect(h.Objects()), m.list(); !same(got, want) {
		t.Errorf("Objects: got %v, want %v", got, want)
	}
	if got, want := h.FreeList(), m.gaps(); !slices.Equal(got, want) {
		t.Errorf("FreeList: got %v, want %v", got, want)
	}
	if got := h.Pool(); !slices.Equal(got, m.free) || h.Retired() != m.retired {
		t.Errorf("Pool and Retired: got %v and %d, want %v and %d", got, h.Retired(), m.free, m.retired)
	}
	for _, p := range numbers() {
		if got, want := h.Usage(p), m.usage(p); got != want || h.Alive(p) != m.started[p] {
			t.Errorf("plugin %d: got %v and %t, want %v and %t", p, got, h.Alive(p), want, m.started[p])
		}
	}
	m.checkLog(t, h)
	m.checkFree(t, h)
}

// checkLog compares the log.
func (m *model) checkLog(t *testing.T, h *Heap) {
	t.Helper()
	if got := events(t, h); !slices.Equal(got, m.events) {
		t.Errorf("Events: got %v, want %v", got, m.events)
	}
	log := h.Log()
	if got, e := audit.Decode(log); e != api.OK || !slices.Equal(got, m.events) {
		t.Errorf("Log: got %v and %d, want %v", got, e, m.events)
	}
	digest := uint64(0)
	for i := range min(8, len(log)) {
		digest = digest<<8 + uint64(log[len(log)-1-i])
	}
	if len(m.events) == 0 {
		digest = noDigest
	}
	if got := h.Digest(); got != digest {
		t.Errorf("Digest: got %d, want %d", got, digest)
	}
}

// checkFree checks that all free bytes are 0.
func (m *model) checkFree(t *testing.T, h *Heap) {
	t.Helper()
	b := h.orZero().arena.Bytes()
	for _, e := range m.gaps() {
		if bytes.Count(b[e.Off:e.Off+e.Len], []byte{0}) != e.Len {
			t.Errorf("the free extent %v is %v", e, b[e.Off:e.Off+e.Len])
		}
	}
}

// do performs a call on a heap and on the model, and compares the results. Nothing but the log may change if there is an error, which check finds.
func (m *model) do(t *testing.T, h *Heap, c call) result {
	t.Helper()
	known := len(m.issued)
	want := m.perform(c)
	if len(m.issued) > known && slices.Contains(m.issued[:known], want.o) {
		t.Fatalf("%+v: %#x is issued twice", c, want.o)
	}
	if got := c.on(h); !reflect.DeepEqual(got, want) {
		t.Fatalf("%+v: got %+v, want %+v", c, got, want)
	}
	return want
}
