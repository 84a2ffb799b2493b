package heap

import (
	"bytes"
	"math"
	"math/rand"
	"slices"
	"testing"

	"pluginhost/api"
)

// The types that most tests define, with the tags 1 to 5, the sizes 6, 24, 16, 20 and 129, and the extents 16, 32, 16, 32 and 256.
func types() []api.Type {
	return []api.Type{
		{Fields: []api.Field{{Kind: api.U8}, {Kind: api.String, Count: 3}, {Kind: api.U16}}},
		{Len: 3, Fields: []api.Field{{Kind: api.U64}}},
		{Fields: []api.Field{{Kind: api.Word}, {Kind: api.U32}}},
		{Len: 5, Fields: []api.Field{{Kind: api.String, Count: 4}}},
		{Fields: []api.Field{{Kind: api.String, Count: 129}}},
	}
}

// config is a configuration with room for whatever a short test does.
func config() api.Config {
	return api.Config{Slots: 6, Arena: 1024, FirstGen: 1, Log: 1000, Quota: api.Quota{Bytes: 1024, Objects: 6, Borrows: 6}, Frames: 1}
}

// tight is a configuration in which everything runs out soon.
func tight() api.Config {
	return api.Config{Slots: 2, Arena: 48, FirstGen: math.MaxUint32 - 1, Log: 4, Quota: api.Quota{Bytes: 32, Objects: 2, Borrows: 1}, Frames: 1}
}

// mustNew returns a heap with this configuration, which must be correct, and its model.
func mustNew(t *testing.T, c api.Config) (*Heap, *model) {
	t.Helper()
	h, e := New(c)
	if h == nil || e != api.OK {
		t.Fatalf("New of %v: got %v and %d", c, h, e)
	}
	return h, newModel(c)
}

// made returns a heap with the types and the plugins 1 to 3, and its model.
func made(t *testing.T, c api.Config) (*Heap, *model) {
	t.Helper()
	h, m := mustNew(t, c)
	for _, x := range types() {
		m.do(t, h, call{op: define, t: x})
	}
	for p := 1; p <= 3; p++ {
		m.do(t, h, call{op: api.EvStart, p: p})
	}
	return h, m
}

// must performs a call that has this error.
func (m *model) must(t *testing.T, h *Heap, e api.Errno, c call) {
	t.Helper()
	if r := m.do(t, h, c); r.e != e {
		t.Errorf("%+v: got %d, want %d", c, r.e, e)
	}
}

// mustAlloc allocates an object of the type with this tag.
func (m *model) mustAlloc(t *testing.T, h *Heap, p, tag int) api.Handle {
	t.Helper()
	r := m.do(t, h, alloc(p, tag, 0))
	if r.e != api.OK {
		t.Fatalf("Alloc by %d with the tag %d: got %d", p, tag, r.e)
	}
	return r.o
}

// last checks the last event.
func last(t *testing.T, h *Heap, want api.Event) {
	t.Helper()
	list := events(t, h)
	if len(list) == 0 || list[len(list)-1] != want {
		t.Errorf("the last event: got %v, want %v", list, want)
	}
}

// extremes are numbers at the ends of int, and some in the middle.
func extremes() []int {
	return []int{math.MinInt, math.MinInt + 1, -1 << 32, -2, -1, 0, 1, 2, 1 << 32, math.MaxInt - 1, math.MaxInt}
}

// The example of the document.
func TestExample(t *testing.T) {
	h, m := made(t, config())
	o := m.mustAlloc(t, h, 1, 1)
	m.must(t, h, api.OK, share(1, o, 2))
	m.must(t, h, api.ErrBorrow, set(1, o, 0, 5))
	m.must(t, h, api.OK, release(2, o))
	m.must(t, h, api.ErrForeign, get(2, o, 0))
	m.must(t, h, api.OK, set(1, o, 0, 5))
	m.check(t, h)
}

// P18.1: each number of a configuration at the ends of its range and next to them.
func TestCheckConfig(t *testing.T) {
	for _, x := range []struct {
		name      string
		low, high int
		set       func(c *api.Config, n int)
	}{
		{"Slots", 0, 4096, func(c *api.Config, n int) { c.Slots = n }},
		{"Arena", 0, 1048576, func(c *api.Config, n int) { c.Arena = n }},
		{"Log", 0, 65536, func(c *api.Config, n int) { c.Log = n }},
		{"Bytes", 0, math.MaxInt, func(c *api.Config, n int) { c.Quota.Bytes = n }},
		{"Objects", 0, math.MaxInt, func(c *api.Config, n int) { c.Quota.Objects = n }},
		{"Borrows", 0, math.MaxInt, func(c *api.Config, n int) { c.Quota.Borrows = n }},
		{"Frames", 1, 256, func(c *api.Config, n int) { c.Frames = n }},
		{"Stack", 0, 16384, func(c *api.Config, n int) { c.Stack = n }},
	} {
		for _, n := range append(extremes(), x.low-1, x.low, x.low+1, x.high-1, x.high, x.high+1) {
			c, want := config(), api.OK
			x.set(&c, n)
			if n < x.low || n > x.high {
				want = api.ErrArg
			}
			h, e := New(c)
			if got := CheckConfig(c); got != want || e != want || (h == nil) != (want != api.OK) {
				t.Errorf("%s %d: got %d, %v and %d", x.name, n, got, h, e)
			}
		}
	}
	for _, first := range []uint32{1, 2, math.MaxUint32} {
		c := config()
		c.FirstGen = first
		h, m := made(t, c)
		if o := m.mustAlloc(t, h, 1, 1); o != word(0, int(first), 1) {
			t.Errorf("FirstGen %d: got %#x", first, o)
		}
	}
	c := config()
	c.FirstGen = 0
	if h, e := New(c); CheckConfig(c) != api.ErrArg || h != nil || e != api.ErrArg {
		t.Errorf("FirstGen 0: got %d, %v and %d", CheckConfig(c), h, e)
	}
	if CheckConfig(api.Config{}) != api.ErrArg {
		t.Error("the zero Config is accepted")
	}
}

// P18.1 and P18.13: a new heap is empty, with all slots and bytes free, and no plugin is alive or was started.
func TestNew(t *testing.T) {
	for _, n := range []int{0, 1, 5, 4096} {
		c := config()
		c.Slots, c.Arena, c.Log = n, 100*n, n
		h, m := mustNew(t, c)
		m.check(t, h)
		for p := 1; p <= 64; p++ {
			if h.Alive(p) {
				t.Errorf("plugin %d is alive", p)
			}
			for _, x := range operations(p, word(0, 1, 1), 1) {
				m.must(t, h, api.ErrPlugin, x)
			}
		}
		m.check(t, h)
	}
}

// P18.1: a nil or zero Heap.
func TestNone(t *testing.T) {
	for _, h := range []*Heap{nil, {}} {
		m := zeroModel()
		for range 2 {
			for _, p := range append(extremes(), 63, 64, 65) {
				m.do(t, h, start(p))
				m.must(t, h, api.ErrPlugin, end(p))
				m.must(t, h, api.ErrPlugin, alloc(p, 1, 0))
				for _, x := range operations(p, word(0, 1, 1), 2) {
					m.must(t, h, api.ErrPlugin, x)
				}
			}
			m.must(t, h, api.ErrState, start(1))
			m.must(t, h, api.ErrState, start(64))
			m.must(t, h, api.ErrPlugin, start(0))
			for _, x := range types() {
				m.must(t, h, api.ErrBig, call{op: define, t: x})
			}
			m.must(t, h, api.ErrForm, call{op: define})
			m.must(t, h, api.ErrKind, call{op: define, t: api.Type{Len: 1, Fields: []api.Field{{Kind: 9}}}})
			m.must(t, h, api.ErrBig, call{op: define, t: api.Type{Len: 65537, Fields: []api.Field{{Kind: 9}}}})
			m.check(t, h)
		}
	}
}

// P18.2: tags are those of layer 10, and nothing of it is in the log.
func TestDefine(t *testing.T) {
	h, m := mustNew(t, config())
	for range 2 {
		for i, x := range types() {
			if r := m.do(t, h, call{op: define, t: x}); r != (result{n: i + 1}) {
				t.Errorf("Define of %v: got %v", x, r)
			}
		}
		m.must(t, h, api.ErrForm, call{op: define})
		m.must(t, h, api.ErrKind, call{op: define, t: api.Type{Fields: []api.Field{{}}}})
		m.must(t, h, api.ErrBig, call{op: define, t: api.Type{Len: 65536, Fields: []api.Field{{Kind: api.U16}}}})
	}
	for n := 6; n <= 255; n++ {
		m.must(t, h, api.OK, call{op: define, t: api.Type{Len: n, Fields: []api.Field{{Kind: api.U8}}}})
	}
	m.must(t, h, api.ErrBig, call{op: define, t: api.Type{Len: 256, Fields: []api.Field{{Kind: api.U8}}}})
	m.must(t, h, api.OK, call{op: define, t: types()[4]})
	m.check(t, h)
	m.must(t, h, api.OK, start(1))
	if o := m.mustAlloc(t, h, 1, 255); o != word(0, 1, 255) {
		t.Errorf("the last tag: got %#x", o)
	}
	m.must(t, h, api.ErrType, alloc(1, 256, 0))
	m.check(t, h)
}

// General rule 3: Define neither changes nor keeps the fields.
func TestDefineKeepsNothing(t *testing.T) {
	h, m := made(t, config())
	fields := []api.Field{{Kind: api.U8}, {Kind: api.U8}}
	tag, e := h.Define(api.Type{Fields: fields})
	if tag != 6 || e != api.OK || !slices.Equal(fields, []api.Field{{Kind: api.U8}, {Kind: api.U8}}) {
		t.Errorf("got %d, %d and %v", tag, e, fields)
	}
	m.define(api.Type{Fields: slices.Clone(fields)})
	clear(fields)
	o := m.mustAlloc(t, h, 1, 6)
	m.must(t, h, api.OK, set(1, o, 1, 255))
	m.must(t, h, api.ErrAbsent, set(1, o, 2, 255))
	m.check(t, h)
}

// P18.3: each plugin is started once, with an event; a refused Start is not in the log.
func TestStart(t *testing.T) {
	h, m := mustNew(t, tight())
	for _, p := range append(extremes(), 65, 66, 128, 256, 257) {
		if p < 1 || p > 64 {
			m.must(t, h, api.ErrPlugin, start(p))
		}
	}
	m.check(t, h)
	for _, p := range []int{64, 1, 2, 63, 30} {
		m.must(t, h, api.OK, start(p))
		last(t, h, api.Event{Plugin: p, Op: 32})
		m.must(t, h, api.ErrState, start(p))
		m.check(t, h)
	}
	for p := range 64 {
		m.do(t, h, start(p+1))
		if !h.Alive(p + 1) {
			t.Errorf("plugin %d is not alive", p+1)
		}
	}
	m.check(t, h)
}

// P18.3 and P18.4: EvStart and EvEnd are in the log also if no plugin has room in it, and do not count.
func TestStartWithoutRoom(t *testing.T) {
	c := tight()
	c.Log = 0
	h, m := made(t, c)
	m.must(t, h, api.ErrLog, alloc(1, 1, 0))
	m.must(t, h, api.OK, end(1))
	last(t, h, api.Event{Plugin: 1, Op: 33})
	m.must(t, h, api.ErrState, start(1))
	m.must(t, h, api.ErrPlugin, end(1))
	m.check(t, h)
	if u := h.Usage(1); u != (api.Usage{Missed: 1}) {
		t.Errorf("got %v", u)
	}
}

// P18.4 and P18.15: what End takes from the plugin and from the others, and that it frees in ascending order of the slots.
func TestEnd(t *testing.T) {
	h, m := made(t, config())
	var own []api.Handle
	for _, draw := range []uint64{4, 1, 2, 0} {
		own = append(own, m.do(t, h, alloc(1, 1, draw)).o)
	}
	other := m.mustAlloc(t, h, 2, 2)
	for i, o := range own {
		m.must(t, h, api.OK, store(1, o, 0, 1, 2, 3, 4, 5, byte(i+1)))
	}
	m.must(t, h, api.OK, share(1, own[0], 2))
	m.must(t, h, api.OK, share(1, own[0], 3))
	m.must(t, h, api.OK, share(1, own[0], 3))
	m.must(t, h, api.OK, lend(1, own[1], 3))
	m.must(t, h, api.OK, share(2, other, 1))
	m.must(t, h, api.OK, share(2, other, 1))
	m.must(t, h, api.OK, share(2, other, 3))
	m.check(t, h)
	if r := m.do(t, h, end(1)); r != (result{n: 4}) {
		t.Errorf("got %v", r)
	}
	last(t, h, api.Event{Plugin: 1, Op: 33, Arg: 4})
	m.check(t, h)
	// The slots were issued in the order 4, 1, 2, 0, and the other plugin has 3.
	if got := h.Pool(); !slices.Equal(got, []int{5, 0, 1, 2, 4}) {
		t.Errorf("Pool: got %v", got)
	}
	if u := h.Usage(1); u.Bytes != 0 || u.Objects != 0 || u.Borrows != 0 || h.Usage(2).Borrows != 0 || h.Usage(3).Borrows != 1 {
		t.Errorf("got %v, %v and %v", u, h.Usage(2), h.Usage(3))
	}
	for _, o := range own {
		m.must(t, h, api.ErrStale, get(3, o, 0))
		m.must(t, h, api.ErrPlugin, get(1, o, 0))
	}
	m.must(t, h, api.ErrBorrow, free(2, other))
	m.must(t, h, api.OK, release(3, other))
	m.must(t, h, api.OK, free(2, other))
	m.check(t, h)
}

// P18.4: plugins that are not alive are not ended, which is not in the log, and an ended plugin is not started again.
func TestEndRefuses(t *testing.T) {
	h, m := made(t, config())
	for _, p := range append(extremes(), 4, 64, 65) {
		if p != 1 && p != 2 {
			m.must(t, h, api.ErrPlugin, end(p))
		}
	}
	m.check(t, h)
	o := m.mustAlloc(t, h, 2, 1)
	for range 2 {
		m.do(t, h, end(1))
		m.must(t, h, api.ErrState, start(1))
		for _, x := range append(operations(1, o, 2), alloc(1, 1, 0)) {
			m.must(t, h, api.ErrPlugin, x)
		}
		for _, x := range []call{transfer(2, o, 1), share(2, o, 1), lend(2, o, 1)} {
			m.must(t, h, api.ErrPlugin, x)
			last(t, h, api.Event{Plugin: 2, Op: x.op, Handle: o, Arg: 1, Err: api.ErrPlugin})
		}
		m.check(t, h)
	}
	m.must(t, h, api.OK, end(2))
	m.must(t, h, api.OK, start(64))
	m.check(t, h)
}

// P18.5: the errors of Alloc, each one alone and with all those that come after it.
func TestAllocOrder(t *testing.T) {
	for _, changed := range []bool{false, true} {
		for i, e := range []api.Errno{api.ErrArena, api.ErrSlots, api.ErrQuota, api.ErrType, api.ErrLog, api.ErrPlugin} {
			c, p, tag := config(), 1, 1
			for k, change := range []func(){func() { c.Arena = 15 }, func() { c.Slots = 0 }, func() { c.Quota.Objects = 0 }, func() { tag = 6 }, func() { c.Log = 0 }, func() { p = 4 }} {
				if k == i || changed && k < i {
					change()
				}
			}
			h, m := made(t, c)
			m.must(t, h, e, alloc(p, tag, 7))
			m.check(t, h)
			if e != api.ErrLog && e != api.ErrPlugin {
				last(t, h, api.Event{Plugin: 1, Op: 1, Arg: uint64(tag), Err: e})
			}
		}
	}
}

// P18.5: tags that no type has.
func TestAllocTags(t *testing.T) {
	h, m := made(t, config())
	for _, tag := range append(extremes(), 6, 7, 255, 256, 257) {
		if tag < 1 || tag > 5 {
			m.must(t, h, api.ErrType, alloc(1, tag, 0))
			last(t, h, api.Event{Plugin: 1, Op: 1, Arg: uint64(tag), Err: api.ErrType})
		}
	}
	m.check(t, h)
}

// P18.5: sizes are rounded by layer 5, for the extent and for the quota, and quotas can be used up exactly.
func TestAllocSizes(t *testing.T) {
	for _, x := range []struct{ size, length int }{{1, 16}, {16, 16}, {17, 32}, {128, 128}, {129, 256}, {257, 512}, {2048, 2048}, {2049, 4096}, {4097, 6144}, {65535, 65536}, {65536, 65536}} {
		for _, short := range []api.Config{{}, {Arena: 1}, {Quota: api.Quota{Bytes: 1}}, {Quota: api.Quota{Objects: 1}}} {
			c := config()
			c.Arena, c.Quota = 2*x.length-short.Arena, api.Quota{Bytes: 2*x.length - short.Quota.Bytes, Objects: 2 - short.Quota.Objects}
			h, m := mustNew(t, c)
			m.must(t, h, api.OK, start(5))
			m.must(t, h, api.OK, call{op: define, t: api.Type{Len: x.size, Fields: []api.Field{{Kind: api.U8}}}})
			m.mustAlloc(t, h, 5, 1)
			if got := slices.Collect(h.Objects()); got[0].At != (api.Extent{Len: x.length}) || len(got[0].Bytes) != x.size || h.Usage(5).Bytes != x.length {
				t.Errorf("size %d: got %v", x.size, got[0].At)
			}
			if r := m.do(t, h, alloc(5, 1, 0)); (r.e == api.OK) != (short == api.Config{}) {
				t.Errorf("size %d: got %d with %v less", x.size, r.e, short)
			}
			m.check(t, h)
		}
	}
}

// P18.5: draws choose the slots, and a draw of a refused call has no effect.
func TestAllocDraws(t *testing.T) {
	for _, draw := range []uint64{0, 1, 2, 5, 6, 7, 1 << 32, math.MaxUint64} {
		h, m := made(t, config())
		if r := m.do(t, h, alloc(2, 1, draw)); r.o != word(int(draw%6), 1, 1) {
			t.Errorf("draw %d: got %#x", draw, r.o)
		}
		m.must(t, h, api.ErrType, alloc(2, 9, draw))
		for range 5 {
			m.must(t, h, api.OK, alloc(2, 1, draw))
		}
		m.must(t, h, api.ErrSlots, alloc(1, 1, draw))
		m.check(t, h)
	}
}

// P18.5, P18.6 and P18.15: the bytes of a new object are 0, also where an object that was freed, or whose owner ended, was before.
func TestAllocZero(t *testing.T) {
	h, m := made(t, config())
	full := bytes.Repeat([]byte{255}, 129)
	for _, ending := range []call{free(1, word(0, 1, 5)), end(1)} {
		o := m.mustAlloc(t, h, 1, 5)
		m.must(t, h, api.OK, store(1, o, 0, full...))
		ending.o = o
		m.must(t, h, api.OK, ending)
		m.check(t, h)
		o = m.mustAlloc(t, h, 2, 5)
		if r := m.do(t, h, load(2, o, 0, 129)); r.b != string(make([]byte, 129)) {
			t.Errorf("got %q", r.b)
		}
		m.must(t, h, api.OK, free(2, o))
		m.check(t, h)
	}
}

// P18.6: what Free takes from the plugin; a slot is retired with its last generation.
func TestFree(t *testing.T) {
	h, m := made(t, tight())
	for i := range 4 {
		p := 1 + i%2
		o := m.mustAlloc(t, h, p, 2)
		if h.Usage(p).Bytes != 32 || h.Usage(p).Objects != 1 {
			t.Errorf("got %v", h.Usage(p))
		}
		m.must(t, h, api.OK, free(p, o))
		last(t, h, api.Event{Plugin: p, Op: 2, Handle: o})
		m.check(t, h)
		if h.Usage(p).Bytes != 0 || h.Usage(p).Objects != 0 {
			t.Errorf("got %v", h.Usage(p))
		}
	}
	m.must(t, h, api.ErrSlots, alloc(3, 1, 0))
	if h.Retired() != 2 {
		t.Errorf("Retired: got %d", h.Retired())
	}
	m.check(t, h)
}

// P18.6 to P18.12: each operation by the owner, by a holder in each mode, and by others, on an object that is lent in each way, alone and with a wrong word.
func TestAccess(t *testing.T) {
	for _, loans := range [][]call{{}, {share(1, 0, 2)}, {share(1, 0, 2), share(1, 0, 2)}, {share(1, 0, 2), share(1, 0, 3)}, {lend(1, 0, 2)}, {transfer(1, 0, 2)}, {transfer(1, 0, 2), lend(2, 0, 1)}} {
		for p := 1; p <= 4; p++ {
			for q := range 6 {
				for i := range operations(p, 0, q) {
					h, m := made(t, config())
					o := m.mustAlloc(t, h, 1, 1)
					for _, x := range loans {
						x.o = o
						m.must(t, h, api.OK, x)
					}
					for _, wrong := range []api.Handle{0, o + 1, o + 6, o + 1<<24, o - 1<<24, o + 1<<56, o | 1<<63} {
						m.do(t, h, operations(p, wrong, q)[i])
					}
					m.do(t, h, operations(p, o, q)[i])
					m.check(t, h)
				}
			}
		}
	}
}

// G1: the errors of resolving come in their order, for a word of which everything after the error is wrong as well.
func TestResolveOrder(t *testing.T) {
	h, m := made(t, config())
	o := m.mustAlloc(t, h, 1, 1)
	m.must(t, h, api.OK, lend(1, o, 2))
	for _, x := range []struct {
		p int
		o api.Handle
		e api.Errno
	}{{3, word(6, 9, 9), api.ErrSlot}, {3, word(0, 9, 9), api.ErrStale}, {3, word(1, 1, 9), api.ErrStale}, {3, word(0, 1, 9), api.ErrTag}, {3, o, api.ErrForeign}, {1, o, api.ErrBorrow}} {
		// q is no plugin, there is no field, and the bytes do not lie within the object.
		for _, wrong := range []call{free(x.p, x.o), get(x.p, x.o, -1), set(x.p, x.o, 9, 0), load(x.p, x.o, -1, -1), store(x.p, x.o, -1, 1), copies(x.p, x.o, -1, 0, -1, -1), transfer(x.p, x.o, 9), share(x.p, x.o, x.p), lend(x.p, x.o, 0)} {
			m.must(t, h, x.e, wrong)
		}
		if x.p == 3 {
			m.must(t, h, x.e, release(x.p, x.o))
		}
		m.check(t, h)
	}
}

// P18.7: numbers of all kinds, the greatest ones that fit, and those that do not.
func TestFields(t *testing.T) {
	h, m := made(t, config())
	fields := []api.Field{{Kind: api.U8}, {Kind: api.U16}, {Kind: api.U32}, {Kind: api.U64}, {Kind: api.Word}, {Kind: api.String, Count: 8}, {Kind: api.String, Count: 1}}
	m.must(t, h, api.OK, call{op: define, t: api.Type{Fields: fields}})
	o := m.mustAlloc(t, h, 1, 6)
	for i, max := range []uint64{1<<8 - 1, 1<<16 - 1, 1<<32 - 1, 1<<64 - 1, 1<<64 - 1} {
		for _, v := range []uint64{1, max - 1, max, 0x0102030405060708 & max, 0} {
			m.must(t, h, api.OK, set(1, o, i, v))
			last(t, h, api.Event{Plugin: 1, Op: 4, Handle: o, Arg: uint64(i)})
			if r := m.do(t, h, get(1, o, i)); r != (result{v: v}) {
				t.Errorf("field %d: got %v, want %d", i, r, v)
			}
			m.check(t, h)
		}
		m.must(t, h, api.OK, set(1, o, i, max/3))
		for _, v := range []uint64{max + 1, max + 2, 1 << 63, math.MaxUint64} {
			if v > max {
				m.must(t, h, api.ErrValue, set(1, o, i, v))
			}
		}
		m.check(t, h)
	}
	for _, i := range []int{5, 6} {
		m.must(t, h, api.ErrKind, get(1, o, i))
		m.must(t, h, api.ErrKind, set(1, o, i, math.MaxUint64))
	}
	for _, i := range append(extremes(), 7, 8, 32) {
		if i < 0 || i > 6 {
			m.must(t, h, api.ErrAbsent, get(1, o, i))
			last(t, h, api.Event{Plugin: 1, Op: 3, Handle: o, Arg: uint64(i), Err: api.ErrAbsent})
			m.must(t, h, api.ErrAbsent, set(1, o, i, math.MaxUint64))
			last(t, h, api.Event{Plugin: 1, Op: 4, Handle: o, Arg: uint64(i), Err: api.ErrAbsent})
		}
	}
	m.check(t, h)
}

// P18.7: elements of arrays, of numbers and of strings.
func TestElements(t *testing.T) {
	h, m := made(t, config())
	numbers, strings := m.mustAlloc(t, h, 1, 2), m.mustAlloc(t, h, 1, 4)
	for i := range 3 {
		m.must(t, h, api.OK, set(1, numbers, i, 1<<60+uint64(i)))
	}
	for i := range 5 {
		m.must(t, h, api.ErrKind, get(1, strings, i))
		m.must(t, h, api.ErrKind, set(1, strings, i, 0))
	}
	m.must(t, h, api.ErrAbsent, get(1, numbers, 3))
	m.must(t, h, api.ErrAbsent, get(1, strings, 5))
	m.check(t, h)
	if r := m.do(t, h, get(1, numbers, 2)); r.v != 1<<60+2 {
		t.Errorf("got %v", r)
	}
}

// offsets are offsets and numbers of bytes around the sizes 0, 6, 16, 24, 32 and at the ends of int.
func offsets() []int {
	return append(extremes(), 3, 5, 6, 7, 15, 16, 17, 23, 24, 25, 31, 32, 33, math.MaxInt-6, math.MinInt+6)
}

// P18.8: all offsets and numbers of bytes around the size of the type, which is less than the extent, or as long.
func TestBytes(t *testing.T) {
	c := config()
	c.Log = api.MaxLog
	for tag := 1; tag <= 3; tag++ {
		h, m := made(t, c)
		o, p := m.mustAlloc(t, h, 1, tag), m.mustAlloc(t, h, 1, tag)
		m.must(t, h, api.OK, store(1, o, 0, 1, 2, 3, 4, 5, 6))
		m.must(t, h, api.OK, store(1, p, 0, 255))
		for _, off := range offsets() {
			for _, n := range offsets() {
				m.do(t, h, load(1, o, off, n))
				if n >= 0 && n < 40 {
					m.do(t, h, store(1, o, off, []byte("abcdefghijklmnopqrstuvwxyzabcdefghijklmnop")[:n]...))
				}
			}
			m.check(t, h)
		}
	}
}

// P18.8 and general rule 3: Load returns new memory, and Store keeps nothing of its argument and does not change it.
func TestBytesMemory(t *testing.T) {
	h, m := made(t, config())
	o := m.mustAlloc(t, h, 1, 1)
	b := []byte{1, 2, 3}
	m.must(t, h, api.OK, call{op: api.OpStore, p: 1, o: o, b: b})
	if !slices.Equal(b, []byte{1, 2, 3}) {
		t.Errorf("got %v", b)
	}
	clear(b)
	m.check(t, h)
	got, _ := h.Load(1, o, 0, 3)
	clear(got[:cap(got)])
	m.check(t, h)
}

// P18.9: all offsets and numbers of bytes around the sizes of two types, and within one object.
func TestCopy(t *testing.T) {
	c := config()
	c.Log = api.MaxLog
	h, m := made(t, c)
	o, p := m.mustAlloc(t, h, 1, 1), m.mustAlloc(t, h, 1, 2)
	m.must(t, h, api.OK, store(1, p, 0, []byte("abcdefghijklmnopqrstuvwx")...))
	list := []int{math.MinInt, -1, 0, 1, 2, 5, 6, 7, 18, 24, 25, math.MaxInt}
	for _, to := range list {
		for _, from := range list {
			for _, n := range []int{math.MinInt, -1, 0, 1, 2, 5, 6, 7, 24, 25, math.MaxInt} {
				for _, x := range []call{copies(1, o, to, p, from, n), copies(1, p, to, o, from, n), copies(1, p, to, p, from, n)} {
					got, want := x.on(h), m.operation(x)
					if got != want {
						t.Errorf("%+v: got %v, want %v", x, got, want)
					}
				}
			}
		}
		if !same(slices.Collect(h.Objects()), m.list()) {
			t.Fatalf("to %d: got %v, want %v", to, slices.Collect(h.Objects()), m.list())
		}
	}
	last(t, h, api.Event{Plugin: 1, Op: 7, Handle: p, Arg: uint64(p), Err: api.ErrBounds})
}

// P18.9: the access to dst comes first, then that to src, each with all of its errors.
func TestCopyAccess(t *testing.T) {
	h, m := made(t, config())
	words := []api.Handle{0, word(6, 1, 1), word(0, 1, 2)}
	for _, p := range []int{1, 1, 1, 2, 2, 2} {
		words = append(words, m.mustAlloc(t, h, p, 1))
	}
	m.must(t, h, api.OK, share(1, words[3], 2))
	m.must(t, h, api.OK, lend(1, words[4], 2))
	m.must(t, h, api.OK, share(2, words[6], 1))
	m.must(t, h, api.OK, lend(2, words[7], 1))
	for p := 1; p <= 4; p++ {
		for i, dst := range words {
			m.must(t, h, api.OK, set(2-i%2, words[5+3*(1-i%2)], 0, uint64(i)))
			for _, src := range words {
				m.do(t, h, copies(p, dst, 0, src, 0, 6))
				m.do(t, h, copies(p, dst, 7, src, 0, -1))
			}
			m.check(t, h)
		}
	}
}

// P18.10: a quota of which exactly as much is left as is needed, and less, for bytes and objects.
func TestTransferQuota(t *testing.T) {
	for _, x := range []struct {
		quota api.Quota
		e     api.Errno
	}{{api.Quota{Bytes: 48, Objects: 2}, api.OK}, {api.Quota{Bytes: 47, Objects: 2}, api.ErrQuota}, {api.Quota{Bytes: 48, Objects: 1}, api.ErrQuota}} {
		c := config()
		c.Quota = x.quota
		h, m := made(t, c)
		o := m.mustAlloc(t, h, 1, 2)
		m.mustAlloc(t, h, 2, 1)
		m.must(t, h, x.e, transfer(1, o, 2))
		last(t, h, api.Event{Plugin: 1, Op: 8, Handle: o, Arg: 2, Err: x.e})
		m.check(t, h)
		// The new owner has it, or the old one still has.
		m.must(t, h, api.OK, free(map[api.Errno]int{api.OK: 2, api.ErrQuota: 1}[x.e], o))
		m.check(t, h)
	}
}

// P18.10 and P18.11: plugins that are not alive, or are the plugin itself, get nothing, whatever their quotas are, which is in the log.
func TestReceivers(t *testing.T) {
	for _, quota := range []api.Quota{{Bytes: 16, Objects: 1}, {Bytes: 1000, Objects: 9, Borrows: 9}} {
		c := config()
		c.Quota = quota
		h, m := made(t, c)
		o := m.mustAlloc(t, h, 1, 1)
		m.must(t, h, api.OK, end(3))
		for _, q := range append(extremes(), 3, 4, 64, 65, 257) {
			if q == 2 {
				continue
			}
			for _, x := range []call{transfer(1, o, q), share(1, o, q), lend(1, o, q)} {
				m.must(t, h, api.ErrPlugin, x)
				last(t, h, api.Event{Plugin: 1, Op: x.op, Handle: o, Arg: uint64(q), Err: api.ErrPlugin})
			}
		}
		m.check(t, h)
	}
}

// checkBorrows checks how many borrows the plugin 2 has.
func (m *model) checkBorrows(t *testing.T, h *Heap, want int) {
	t.Helper()
	if got := h.Usage(2).Borrows; got != want {
		t.Errorf("got %d borrows, want %d", got, want)
	}
	m.check(t, h)
}

// P18.11 and P18.12: a borrow is one, however often it is lent, until it was given back as often. Those of both modes count.
func TestBorrowQuota(t *testing.T) {
	for limit := range 6 {
		for times, lending := range map[int]func(int, api.Handle, int) call{3: share, 1: lend} {
			c := config()
			c.Quota.Borrows = limit
			h, m := made(t, c)
			var list []api.Handle
			for range 4 {
				list = append(list, m.mustAlloc(t, h, 1, 1))
			}
			for range times {
				for i, o := range list {
					want := api.OK
					if i >= limit {
						want = api.ErrQuota
					}
					m.must(t, h, want, lending(1, o, 2))
				}
			}
			for k := range times + 1 {
				m.check(t, h)
				if got, want := h.Usage(2).Borrows, min(limit, 4)*min(1, times-k); got != want {
					t.Errorf("limit %d: got %d, want %d", limit, got, want)
				}
				for _, o := range list {
					m.do(t, h, release(2, o))
				}
			}
		}
	}
}

// P18.12: the owner, who holds no borrow, has nothing to give back, also while the object is lent.
func TestReleaseByOwner(t *testing.T) {
	h, m := made(t, config())
	o := m.mustAlloc(t, h, 1, 1)
	m.must(t, h, api.ErrForeign, release(1, o))
	m.must(t, h, api.OK, lend(1, o, 2))
	m.must(t, h, api.ErrForeign, release(1, o))
	m.must(t, h, api.ErrForeign, release(3, o))
	m.must(t, h, api.OK, release(2, o))
	last(t, h, api.Event{Plugin: 2, Op: 11, Handle: o})
	m.must(t, h, api.ErrForeign, release(2, o))
	m.check(t, h)
}

// P18.16: an object that changes hands keeps its handle and its bytes.
func TestKeeps(t *testing.T) {
	h, m := made(t, config())
	o := m.mustAlloc(t, h, 1, 1)
	m.must(t, h, api.OK, store(1, o, 0, 1, 2, 3, 4, 5, 6))
	for _, x := range []call{share(1, o, 2), release(2, o), lend(1, o, 3), release(3, o), transfer(1, o, 2), lend(2, o, 1), end(1), transfer(2, o, 3)} {
		m.must(t, h, api.OK, x)
		list := slices.Collect(h.Objects())
		if len(list) != 1 || list[0].Handle != o || list[0].At != (api.Extent{Len: 16}) || !slices.Equal(list[0].Bytes, []byte{1, 2, 3, 4, 5, 6}) {
			t.Errorf("%+v: got %v", x, list)
		}
	}
	if r := m.do(t, h, load(3, o, 0, 6)); r.b != "\x01\x02\x03\x04\x05\x06" {
		t.Errorf("got %q", r.b)
	}
	m.check(t, h)
}

// Logging: with no room left, whatever is recorded is refused before anything else, the rest goes on, and what is not recorded is counted.
func TestNoRoom(t *testing.T) {
	c := config()
	c.Log = 3
	h, m := made(t, c)
	o := m.mustAlloc(t, h, 1, 1)
	m.must(t, h, api.OK, set(1, o, 0, 9))
	m.must(t, h, api.ErrAbsent, get(1, o, 7))
	m.check(t, h)
	missed := 0
	for _, word := range []api.Handle{o, 0, o + 1, word(9, 9, 9)} {
		for _, x := range append(operations(1, word, 2), alloc(1, 1, 0), alloc(1, 9, 0)) {
			switch {
			case x.op != api.OpGet && x.op != api.OpLoad:
				m.must(t, h, api.ErrLog, x)
				missed++
			case word == o:
				m.must(t, h, api.OK, x)
			default:
				if r := m.do(t, h, x); r.e == api.OK || r.e == api.ErrLog {
					t.Errorf("%+v: got %d", x, r.e)
				}
				missed++
			}
		}
	}
	m.check(t, h)
	if u := h.Usage(1); u != (api.Usage{Bytes: 16, Objects: 1, Records: 3, Missed: missed}) {
		t.Errorf("got %v", u)
	}
	// Another plugin has its own room.
	m.must(t, h, api.ErrForeign, free(2, o))
	m.must(t, h, api.OK, alloc(2, 1, 0))
	if r := m.do(t, h, end(1)); r != (result{n: 1}) {
		t.Errorf("got %v", r)
	}
	m.must(t, h, api.ErrPlugin, get(1, o, 0))
	m.must(t, h, api.ErrPlugin, free(1, o))
	m.check(t, h)
	if u := h.Usage(1); u != (api.Usage{Records: 3, Missed: missed}) {
		t.Errorf("got %v", u)
	}
}

// Logging: the events of all operations that succeed, with their handles and arguments, and none of Get and Load.
func TestEvents(t *testing.T) {
	h, m := made(t, config())
	o, p := word(0, 1, 1), word(5, 1, 2)
	for _, x := range []call{alloc(1, 1, 0), alloc(1, 2, 0), get(1, o, 2), set(1, o, 2, 5), load(1, o, 3, 1), store(1, o, 4, 9), copies(1, p, 1, o, 2, 3), share(1, o, 2), release(2, o), lend(1, p, 3), transfer(1, o, 2), free(2, o)} {
		m.must(t, h, api.OK, x)
	}
	ev := func(plugin, op int, o api.Handle, arg uint64) api.Event {
		return api.Event{Plugin: plugin, Op: op, Handle: o, Arg: arg}
	}
	want := []api.Event{ev(1, 32, 0, 0), ev(2, 32, 0, 0), ev(3, 32, 0, 0), ev(1, 1, o, 1), ev(1, 1, p, 2), ev(1, 4, o, 2), ev(1, 6, o, 4), ev(1, 7, p, uint64(o)), ev(1, 9, o, 2), ev(2, 11, o, 0), ev(1, 10, p, 3), ev(1, 8, o, 2), ev(2, 2, o, 0)}
	if got := events(t, h); !slices.Equal(got, want) {
		t.Errorf("got %v, want %v", got, want)
	}
	m.check(t, h)
}

// Logging: a negative number counts as its two's complement.
func TestNegativeArguments(t *testing.T) {
	h, m := made(t, config())
	o := m.mustAlloc(t, h, 1, 1)
	for _, x := range []call{alloc(1, -3, 0), get(1, o, -3), set(1, o, -3, 0), load(1, o, -3, 1), store(1, o, -3), transfer(1, o, -3), share(1, o, -3), lend(1, o, -3)} {
		r := m.do(t, h, x)
		last(t, h, api.Event{Plugin: 1, Op: x.op, Handle: x.o, Arg: 18446744073709551613, Err: r.e})
	}
	m.check(t, h)
}

// P18.13: Usage is defined for every number.
func TestUsageOfAny(t *testing.T) {
	h, m := made(t, config())
	o := m.mustAlloc(t, h, 1, 5)
	m.must(t, h, api.OK, share(1, o, 2))
	m.must(t, h, api.ErrForeign, free(2, o))
	for _, p := range append(extremes(), 3, 64, 65) {
		want := map[int]api.Usage{1: {Bytes: 256, Objects: 1, Records: 2}, 2: {Borrows: 1, Records: 1}}[p]
		if got := h.Usage(p); got != want {
			t.Errorf("Usage of %d: got %v, want %v", p, got, want)
		}
	}
}

// P18.13 and general rule 7: Objects shows the objects as they are when a loop begins, whatever its body does, can be stopped, and is used again.
func TestObjectsIterator(t *testing.T) {
	h, m := made(t, config())
	seq := h.Objects()
	var list []api.Handle
	for range 3 {
		list = append(list, m.mustAlloc(t, h, 1, 1))
	}
	m.must(t, h, api.OK, set(1, list[2], 0, 7))
	m.must(t, h, api.OK, share(1, list[1], 3))
	before := m.list()
	var got []api.Object
	for x := range seq {
		got = append(got, x)
		if len(got) == 1 {
			m.must(t, h, api.OK, set(1, list[0], 0, 8))
			m.must(t, h, api.OK, set(1, list[2], 0, 8))
			m.must(t, h, api.OK, share(1, list[1], 2))
			m.must(t, h, api.OK, transfer(1, list[2], 2))
			m.must(t, h, api.OK, alloc(2, 1, 0))
		}
		if len(got) == 2 {
			m.must(t, h, api.OK, end(1))
		}
	}
	if !same(got, before) || len(got) != 3 {
		t.Errorf("got %v, want %v", got, before)
	}
	m.check(t, h)
	n := 0
	for range seq {
		n++
		break
	}
	if n != 1 || !same(slices.Collect(seq), m.list()) {
		t.Errorf("got %d, and then %v", n, slices.Collect(seq))
	}
}

// P18.13 and general rule 7: Events shows the log as it is when a loop begins.
func TestEventsIterator(t *testing.T) {
	h, m := made(t, config())
	seq := h.Events()
	m.mustAlloc(t, h, 1, 1)
	n := 0
	for range seq {
		m.mustAlloc(t, h, 1, 1)
		n++
	}
	if n != 4 {
		t.Errorf("got %d", n)
	}
	for i, ev := range seq {
		if i > 0 || ev != m.events[0] {
			t.Errorf("got %d and %v", i, ev)
		}
		break
	}
	m.check(t, h)
}

// General rule 3: what the methods return is new memory.
func TestNewMemory(t *testing.T) {
	h, m := made(t, config())
	o := m.mustAlloc(t, h, 1, 1)
	m.must(t, h, api.OK, share(1, o, 2))
	m.must(t, h, api.OK, share(1, o, 3))
	for x := range h.Objects() {
		clear(x.Bytes[:cap(x.Bytes)])
		clear(x.Borrows[:cap(x.Borrows)])
	}
	clear(h.FreeList())
	clear(h.Pool())
	clear(h.Log())
	m.check(t, h)
}

// General rule 6: heaps that were made alike are independent.
func TestIndependent(t *testing.T) {
	one, m := made(t, config())
	other, n := made(t, config())
	o := m.mustAlloc(t, one, 1, 1)
	m.must(t, one, api.OK, share(1, o, 2))
	m.must(t, one, api.OK, end(3))
	n.check(t, other)
	n.must(t, other, api.ErrStale, get(1, o, 0))
	n.mustAlloc(t, other, 2, 1)
	m.check(t, one)
	n.check(t, other)
}

// A heap keeps nothing of what has ended but the log.
func TestNothingIsKept(t *testing.T) {
	h, m := made(t, config())
	for range 20 {
		for p := 1; p <= 3; p++ {
			o, q := m.mustAlloc(t, h, p, p), p%3+1
			m.must(t, h, api.OK, lend(p, o, q))
			m.must(t, h, api.OK, release(q, o))
			m.must(t, h, api.OK, transfer(p, o, q))
			m.must(t, h, api.OK, free(q, o))
		}
	}
	m.check(t, h)
	if got := h.FreeList(); !slices.Equal(got, []api.Extent{{Off: 0, Len: 1024}}) {
		t.Errorf("FreeList: got %v", got)
	}
	for range h.lent.All() {
		t.Error("a borrow is left")
	}
}

// steps are the calls of which TestAllShort makes sequences. The words are those that the first calls of Alloc return.
func steps(first int) []call {
	o, p, next := word(0, first, 1), word(1, first, 2), word(0, first+1, 1)
	return []call{
		alloc(1, 1, 0), alloc(2, 2, 1), alloc(2, 1, 0), free(1, o), free(2, o), set(1, o, 2, 300), set(2, o, 0, 200), set(2, next, 0, 7),
		get(1, o, 2), load(2, o, 0, 6), store(2, p, 3, 4, 5), copies(2, p, 20, o, 2, 4), transfer(1, o, 2), transfer(2, o, 1), transfer(2, p, 1),
		share(1, o, 2), share(1, o, 3), share(2, p, 1), lend(1, o, 2), lend(2, next, 1), release(2, o), release(3, o), release(1, p), end(1), end(2), start(4), get(3, o, 1),
	}
}

// P18.3 to P18.16: all sequences of three calls, where everything runs out soon, after each of a few beginnings.
func TestAllShort(t *testing.T) {
	first := math.MaxUint32 - 1
	list := steps(first)
	o, p := word(0, first, 1), word(1, first, 2)
	for _, beginning := range [][]call{{}, {alloc(1, 1, 0)}, {alloc(1, 1, 0), share(1, o, 2)}, {alloc(1, 1, 0), alloc(2, 2, 1), lend(1, o, 2)}, {alloc(1, 1, 0), alloc(2, 2, 1), share(1, o, 3), share(2, p, 1)}, {alloc(1, 1, 0), free(1, o), alloc(2, 1, 1)}} {
		for n := range len(list) * len(list) * len(list) {
			h, m := made(t, tight())
			calls := slices.Clone(beginning)
			for rest := n; len(calls) < len(beginning)+3; rest /= len(list) {
				calls = append(calls, list[rest%len(list)])
			}
			for _, c := range calls {
				m.do(t, h, c)
			}
			m.check(t, h)
			if t.Failed() {
				t.Fatalf("%+v", calls)
			}
		}
	}
}

// anyWord returns a live handle, one that was issued, one that differs from such a one in a bit, or any word.
func (m *model) anyWord(random *rand.Rand) api.Handle {
	if live := m.list(); len(live) > 0 && random.Intn(4) > 0 {
		return live[random.Intn(len(live))].Handle
	}
	if len(m.issued) == 0 || random.Intn(5) == 0 {
		return api.Handle(random.Uint64() >> random.Intn(65))
	}
	o := m.issued[random.Intn(len(m.issued))]
	if random.Intn(2) == 0 {
		o ^= 1 << random.Intn(64)
	}
	return o
}

// anyCall returns a call with arguments that are mostly right.
func (m *model) anyCall(random *rand.Rand, plugins int) call {
	small := func(n int) int { return random.Intn(n+3) - 1 }
	o := m.anyWord(random)
	p, q := 1+random.Intn(plugins), small(plugins)
	if x := m.objects[int(o%(1<<24))]; x != nil && random.Intn(3) > 0 {
		p = x.owner
		if len(x.loans) > 0 && random.Intn(2) == 0 {
			p = x.loans[random.Intn(len(x.loans))].holder
		}
	}
	list := []call{alloc(p, small(5), random.Uint64()), alloc(p, 1+random.Intn(5), random.Uint64()), get(p, o, small(5)), set(p, o, small(3), random.Uint64()>>random.Intn(65)), load(p, o, small(24), small(24)), store(p, o, small(20), make([]byte, 1+small(5))...), copies(p, o, small(10), m.anyWord(random), small(10), small(8)), share(p, o, q), release(p, o), lend(p, o, q), transfer(p, o, q), free(p, o)}
	if random.Intn(30) == 0 {
		list = []call{start(q), end(q), start(plugins)}
	}
	c := list[random.Intn(len(list))]
	random.Read(c.b)
	return c
}

// P18.3 to P18.16: long mixed sequences of calls, with much and with little room.
func TestLong(t *testing.T) {
	for seed := range int64(60) {
		random := rand.New(rand.NewSource(seed))
		c := api.Config{Slots: 1 + random.Intn(20), Arena: 16 * random.Intn(60), FirstGen: 1, Log: []int{30, 300, 65536}[seed%3], Frames: 1}
		c.Quota = api.Quota{Bytes: 16 + random.Intn(600), Objects: 1 + random.Intn(8), Borrows: random.Intn(6)}
		if seed%4 == 0 {
			c.FirstGen = math.MaxUint32 - uint32(random.Intn(4))
		}
		h, m := made(t, c)
		plugins := 3 + random.Intn(4)
		for range 400 {
			m.do(t, h, m.anyCall(random, plugins))
			m.check(t, h)
			if t.Failed() {
				t.Fatalf("seed %d", seed)
			}
		}
	}
}
