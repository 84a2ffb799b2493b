package arena

import (
	"bytes"
	"math"
	"math/rand"
	"slices"
	"testing"

	"pluginhost/allocator"
	"pluginhost/api"
)

// unit is the smallest size, of which the small arenas of the tests have a few.
const unit = 16

func x(off, length int) api.Extent { return api.Extent{Off: off, Len: length} }

// extremes returns numbers at the bounds of the arena and of the integers, among them some whose sums wrap around.
func extremes() []int {
	return []int{
		math.MinInt, math.MinInt + 1, -api.MaxArena, -unit, api.MaxObject, api.MaxArena - 1, api.MaxArena, api.MaxArena + 1,
		1 << 32, math.MaxInt - unit, math.MaxInt - 8, math.MaxInt - 1, math.MaxInt,
	}
}

// around returns all numbers from -2 to n + 2, and the extremes.
func around(n int) []int {
	list := extremes()
	for i := -2; i <= n+2; i++ {
		list = append(list, i)
	}
	return list
}

// model is an arena by its definition: each allocated extent has bytes of its own, and all other bytes are 0.
type model struct {
	size  int
	parts *allocator.Allocator
	live  map[api.Extent][]byte
}

func newModel(size int) *model {
	parts, _ := allocator.New(size)
	return &model{size, parts, map[api.Extent][]byte{}}
}

func (m *model) alloc(n int) (api.Extent, api.Errno) {
	e, code := m.parts.Alloc(n)
	if code == api.OK {
		m.live[e] = make([]byte, e.Len)
	}
	return e, code
}

func (m *model) free(e api.Extent) api.Errno {
	delete(m.live, e)
	return m.parts.Free(e)
}

// bytes returns what Bytes is to return.
func (m *model) bytes() []byte {
	list := make([]byte, m.size)
	for e, b := range m.live {
		copy(list[e.Off:], b)
	}
	return list
}

// inside reports whether n bytes lie within the length of an extent, without a sum that could wrap around.
func inside(length, off, n int) bool {
	return 0 <= off && off <= length && n <= length && off+n <= length
}

func (m *model) load(e api.Extent, off, width int) (uint64, api.Errno) {
	b, found := m.live[e]
	if !found {
		return 0, api.ErrAbsent
	}
	if !slices.Contains([]int{1, 2, 4, 8}, width) {
		return 0, api.ErrArg
	}
	if !inside(len(b), off, width) {
		return 0, api.ErrBounds
	}
	v := uint64(0)
	for i := off + width - 1; i >= off; i-- {
		v = v*256 + uint64(b[i])
	}
	return v, api.OK
}

func (m *model) store(e api.Extent, off, width int, v uint64) api.Errno {
	if _, code := m.load(e, off, width); code != api.OK {
		return code
	}
	var list []byte
	for range width {
		list = append(list, byte(v%256))
		v /= 256
	}
	if v != 0 {
		return api.ErrValue
	}
	copy(m.live[e][off:], list)
	return api.OK
}

func (m *model) read(e api.Extent, off, n int) ([]byte, api.Errno) {
	b, found := m.live[e]
	if !found {
		return nil, api.ErrAbsent
	}
	if n < 0 {
		return nil, api.ErrArg
	}
	if !inside(len(b), off, n) {
		return nil, api.ErrBounds
	}
	return bytes.Clone(b[off : off+n]), api.OK
}

func (m *model) write(e api.Extent, off int, b []byte) api.Errno {
	if _, code := m.read(e, off, len(b)); code != api.OK {
		return code
	}
	copy(m.live[e][off:], b)
	return api.OK
}

func (m *model) copy(dst api.Extent, to int, src api.Extent, from, n int) api.Errno {
	_, codeOfDst := m.read(dst, to, n)
	list, codeOfSrc := m.read(src, from, n)
	for _, code := range []api.Errno{api.ErrAbsent, api.ErrArg, api.ErrBounds} {
		if codeOfDst == code || codeOfSrc == code {
			return code
		}
	}
	return m.write(dst, to, list)
}

// pair is an arena and its model, which get the same calls.
type pair struct {
	t *testing.T
	a *Arena
	m *model
}

func create(t *testing.T, size int) *pair {
	t.Helper()
	a, code := New(size)
	if a == nil || code != api.OK {
		t.Fatalf("New of %d: got %v and %d", size, a, code)
	}
	return &pair{t, a, newModel(size)}
}

// filled returns an arena of units, each of which is an allocated extent with bytes that differ from those of the others.
func filled(t *testing.T, units int) *pair {
	t.Helper()
	p := create(t, units*unit)
	for i := range units {
		e := p.mustAlloc(unit)
		p.write(e, 0, pattern(unit, i*unit+1))
	}
	p.check()
	return p
}

// pattern returns n bytes that count up from first.
func pattern(n, first int) []byte {
	list := make([]byte, n)
	for i := range list {
		list[i] = byte(first + i)
	}
	return list
}

// check compares all bytes and the free list.
func (p *pair) check() {
	p.t.Helper()
	if got, want := p.a.Bytes(), p.m.bytes(); !bytes.Equal(got, want) {
		p.t.Fatalf("Bytes:\n got %v\nwant %v", got, want)
	}
	if got, want := p.a.FreeList(), p.m.parts.FreeList(); !slices.Equal(got, want) {
		p.t.Fatalf("FreeList: got %v, want %v", got, want)
	}
}

func (p *pair) alloc(n int) (api.Extent, api.Errno) {
	p.t.Helper()
	want, wantError := p.m.alloc(n)
	if code := p.a.Fits(n); code != wantError {
		p.t.Errorf("Fits of %d: got %d, want %d", n, code, wantError)
	}
	e, code := p.a.Alloc(n)
	if e != want || code != wantError {
		p.t.Errorf("Alloc of %d: got %v and %d, want %v and %d", n, e, code, want, wantError)
	}
	return e, code
}

func (p *pair) mustAlloc(n int) api.Extent {
	p.t.Helper()
	e, code := p.alloc(n)
	if code != api.OK {
		p.t.Fatalf("Alloc of %d: got %d", n, code)
	}
	return e
}

func (p *pair) free(e api.Extent) api.Errno {
	p.t.Helper()
	got, want := p.a.Free(e), p.m.free(e)
	if got != want {
		p.t.Errorf("Free of %v: got %d, want %d", e, got, want)
	}
	return got
}

func (p *pair) load(e api.Extent, off, width int) (uint64, api.Errno) {
	p.t.Helper()
	want, wantError := p.m.load(e, off, width)
	got, code := p.a.Load(e, off, width)
	if got != want || code != wantError {
		p.t.Errorf("Load of %v, %d, %d: got %d and %d, want %d and %d", e, off, width, got, code, want, wantError)
	}
	return got, code
}

func (p *pair) store(e api.Extent, off, width int, v uint64) api.Errno {
	p.t.Helper()
	got, want := p.a.Store(e, off, width, v), p.m.store(e, off, width, v)
	if got != want {
		p.t.Errorf("Store of %v, %d, %d, %d: got %d, want %d", e, off, width, v, got, want)
	}
	return got
}

func (p *pair) read(e api.Extent, off, n int) ([]byte, api.Errno) {
	p.t.Helper()
	want, wantError := p.m.read(e, off, n)
	got, code := p.a.Read(e, off, n)
	if !bytes.Equal(got, want) || code != wantError {
		p.t.Errorf("Read of %v, %d, %d: got %v and %d, want %v and %d", e, off, n, got, code, want, wantError)
	}
	return got, code
}

func (p *pair) write(e api.Extent, off int, b []byte) api.Errno {
	p.t.Helper()
	before := bytes.Clone(b)
	got, want := p.a.Write(e, off, b), p.m.write(e, off, b)
	if got != want {
		p.t.Errorf("Write of %v, %d, %v: got %d, want %d", e, off, b, got, want)
	}
	if !bytes.Equal(b, before) {
		p.t.Errorf("Write of %v, %d, %v changed its argument to %v", e, off, before, b)
	}
	return got
}

func (p *pair) copy(dst api.Extent, to int, src api.Extent, from, n int) api.Errno {
	p.t.Helper()
	got, want := p.a.Copy(dst, to, src, from, n), p.m.copy(dst, to, src, from, n)
	if got != want {
		p.t.Errorf("Copy of %v, %d, %v, %d, %d: got %d, want %d", dst, to, src, from, n, got, want)
	}
	return got
}

// expect checks an error that is written out in a test, and that does not rest on the model.
func expect(t *testing.T, what string, got, want api.Errno) {
	t.Helper()
	if got != want {
		t.Errorf("%s: got %d, want %d", what, got, want)
	}
}

// The example of the document.
func TestExample(t *testing.T) {
	p := create(t, 64)
	e := p.mustAlloc(20)
	expect(t, "Store", p.a.Store(e, 3, 2, 0x0102), api.OK)
	if v, code := p.a.Load(e, 4, 1); v != 1 || code != api.OK {
		t.Errorf("Load: got %d and %d", v, code)
	}
	if v, code := p.a.Load(e, 3, 1); v != 2 || code != api.OK {
		t.Errorf("Load: got %d and %d", v, code)
	}
}

// P7.1
func TestNew(t *testing.T) {
	for _, size := range []int{0, 1, 15, 16, 17, api.MaxObject, api.MaxArena - 1, api.MaxArena} {
		p := create(t, size)
		if got := p.a.Bytes(); !bytes.Equal(got, make([]byte, size)) {
			t.Errorf("New of %d: got %d bytes, or some that are not 0", size, len(got))
		}
		p.check()
	}
	for _, size := range []int{math.MinInt, -api.MaxArena, -1, api.MaxArena + 1, math.MaxInt} {
		if a, code := New(size); a != nil || code != api.ErrArg {
			t.Errorf("New of %d: got %v and %d", size, a, code)
		}
	}
}

// P7.1: a nil or zero Arena, and one of the size 0, which they behave like.
func TestWithoutBytes(t *testing.T) {
	var none *Arena
	for _, a := range []*Arena{none, {}, create(t, 0).a} {
		p := &pair{t, a, newModel(0)}
		for range 2 {
			for _, n := range around(unit) {
				p.alloc(n)
			}
			for _, e := range []api.Extent{{}, x(0, 1), x(0, unit), x(-1, unit), x(math.MaxInt, math.MaxInt), x(math.MinInt, math.MinInt)} {
				expect(t, "Free", p.free(e), api.ErrAbsent)
				for _, n := range []int{math.MinInt, -1, 0, 1, 3, math.MaxInt} {
					p.load(e, n, 1)
					p.load(e, 0, n)
					p.store(e, n, 1, math.MaxUint64)
					p.read(e, n, 0)
					p.read(e, 0, n)
					p.write(e, n, nil)
					p.write(e, n, []byte{1})
					p.copy(e, n, e, n, 0)
					p.copy(e, 0, e, 0, n)
				}
			}
			p.check()
		}
	}
	_, code := none.Alloc(1)
	expect(t, "Alloc", code, api.ErrArena)
	_, code = none.Alloc(0)
	expect(t, "Alloc", code, api.ErrArg)
	_, code = none.Alloc(api.MaxObject + 1)
	expect(t, "Alloc", code, api.ErrBig)
}

// P7.1: the errors of Alloc and Fits, in their order, change nothing.
func TestAllocErrors(t *testing.T) {
	p := filled(t, 3)
	p.free(x(unit, unit))
	for _, c := range []struct {
		n    int
		want api.Errno
	}{
		{math.MinInt, api.ErrArg}, {0, api.ErrArg}, {api.MaxObject + 1, api.ErrBig}, {math.MaxInt, api.ErrBig},
		{unit + 1, api.ErrArena}, {api.MaxObject, api.ErrArena},
	} {
		expect(t, "Fits", p.a.Fits(c.n), c.want)
		_, code := p.alloc(c.n)
		expect(t, "Alloc", code, c.want)
		p.check()
	}
	if e, code := p.alloc(1); e != x(unit, unit) || code != api.OK {
		t.Errorf("Alloc: got %v and %d", e, code)
	}
	expect(t, "Fits", p.a.Fits(1), api.ErrArena)
}

// P7.1: Free sets exactly the bytes of its extent to 0, and a new extent at the same place is 0.
func TestFreeClears(t *testing.T) {
	for i := range 4 {
		p := filled(t, 4)
		e := x(i*unit, unit)
		expect(t, "Free", p.free(e), api.OK)
		p.check()
		expect(t, "Free again", p.free(e), api.ErrAbsent)
		p.check()
		expect(t, "Write to a free extent", p.write(e, 0, []byte{1}), api.ErrAbsent)
		if got := p.mustAlloc(1); got != e {
			t.Errorf("Alloc: got %v, want %v", got, e)
		}
		if b, code := p.read(e, 0, unit); !bytes.Equal(b, make([]byte, unit)) || code != api.OK {
			t.Errorf("a new extent: got %v and %d", b, code)
		}
		p.check()
	}
}

// P7.1: extents of all lengths are 0 at their first and last bytes after Free, also beyond the length that was asked for.
func TestFreeClearsAll(t *testing.T) {
	for _, n := range []int{1, 16, 17, 128, 129, 2048, 2049, api.MaxObject} {
		p := create(t, 2*api.MaxObject)
		e := p.mustAlloc(n)
		expect(t, "Write", p.write(e, 0, bytes.Repeat([]byte{255}, e.Len)), api.OK)
		p.check()
		expect(t, "Free", p.free(e), api.OK)
		if got := p.a.Bytes(); !bytes.Equal(got, make([]byte, len(got))) {
			t.Errorf("bytes of an extent for %d bytes are left", n)
		}
	}
}

// P7.1 to P7.4: only exactly an allocated extent can be freed or accessed. All extents around the arena are tried.
func TestAbsent(t *testing.T) {
	const size = 5 * unit
	p := create(t, size)
	allocated := []api.Extent{p.mustAlloc(2 * unit), p.mustAlloc(unit), p.mustAlloc(unit)}
	for i, e := range allocated {
		p.write(e, 0, pattern(e.Len, 40*i+1))
	}
	p.free(allocated[1])
	whole := allocated[0]
	allocated = []api.Extent{whole, allocated[2]}
	try := func(e api.Extent) {
		if slices.Contains(allocated, e) {
			return
		}
		expect(t, "Free", p.a.Free(e), api.ErrAbsent)
		p.load(e, 0, 1)
		p.read(e, 0, 0)
		p.read(e, 0, 1)
		expect(t, "Store", p.a.Store(e, 0, 1, 77), api.ErrAbsent)
		expect(t, "Write", p.a.Write(e, 0, []byte{77}), api.ErrAbsent)
		expect(t, "Write of nothing", p.a.Write(e, 0, nil), api.ErrAbsent)
		expect(t, "Copy to it", p.a.Copy(e, 0, whole, 1, 1), api.ErrAbsent)
		expect(t, "Copy from it", p.a.Copy(whole, 0, e, 0, 1), api.ErrAbsent)
		expect(t, "Copy of nothing", p.a.Copy(e, 0, e, 0, 0), api.ErrAbsent)
	}
	for off := -2; off <= size+2; off++ {
		for length := -2; length <= size+2; length++ {
			try(x(off, length))
		}
	}
	for _, off := range around(0) {
		for _, length := range around(0) {
			try(x(off, length))
		}
	}
	p.check()
}

// P7.2: numbers of all widths at all offsets, in an extent between two others.
func TestNumbers(t *testing.T) {
	p := filled(t, 3)
	e := x(unit, unit)
	values := []uint64{0, 1, 255, 256, 1<<16 - 1, 1 << 16, 1<<32 - 1, 1 << 32, 0x0123456789abcdef, 1 << 63, math.MaxUint64}
	for _, width := range []int{1, 2, 4, 8} {
		for _, off := range around(unit) {
			for _, v := range values {
				if p.store(e, off, width, v) == api.OK {
					if got, code := p.load(e, off, width); got != v || code != api.OK {
						t.Errorf("Load of %d, %d after Store of %d: got %d and %d", off, width, v, got, code)
					}
				}
				p.check()
			}
			for _, other := range []int{1, 2, 4, 8} {
				p.load(e, off, other)
			}
		}
	}
}

// P7.2: the least significant byte comes first.
func TestOrderOfBytes(t *testing.T) {
	p := create(t, unit)
	e := p.mustAlloc(unit)
	expect(t, "Store", p.a.Store(e, 1, 8, 0x0807060504030201), api.OK)
	expect(t, "Store", p.a.Store(e, 9, 4, 0x0c0b0a09), api.OK)
	expect(t, "Store", p.a.Store(e, 13, 2, 0x0e0d), api.OK)
	expect(t, "Store", p.a.Store(e, 15, 1, 0x0f), api.OK)
	if got := p.a.Bytes(); !bytes.Equal(got, pattern(unit, 0)) {
		t.Errorf("Bytes: got %v", got)
	}
	for width, want := range map[int]uint64{1: 0x02, 2: 0x0302, 4: 0x05040302, 8: 0x0908070605040302} {
		if v, code := p.a.Load(e, 2, width); v != want || code != api.OK {
			t.Errorf("Load of %d bytes: got %x and %d, want %x", width, v, code, want)
		}
	}
}

// P7.2: only the widths 1, 2, 4 and 8 are in order.
func TestWidths(t *testing.T) {
	p := filled(t, 2)
	e := x(0, unit)
	for _, width := range around(64) {
		want := api.ErrArg
		if width == 1 || width == 2 || width == 4 || width == 8 {
			want = api.OK
		}
		_, code := p.load(e, 0, width)
		expect(t, "Load", code, want)
		expect(t, "Store", p.store(e, 0, width, 99), want)
		p.check()
	}
}

// P7.2: the greatest number of a width fits, and the next one does not.
func TestGreatestNumbers(t *testing.T) {
	p := filled(t, 2)
	e := x(0, unit)
	for _, width := range []int{1, 2, 4} {
		limit := uint64(1) << (8 * width)
		expect(t, "Store of the greatest", p.store(e, 3, width, limit-1), api.OK)
		p.check()
		for _, v := range []uint64{limit, limit + 1, limit << 7, 1 << 63, math.MaxUint64} {
			expect(t, "Store of a greater one", p.store(e, 3, width, v), api.ErrValue)
			p.check()
		}
	}
	expect(t, "Store of 64 bits", p.store(e, 3, 8, math.MaxUint64), api.OK)
	p.check()
}

// P7.2: the order of the errors.
func TestOrderOfNumberErrors(t *testing.T) {
	p := filled(t, 2)
	e, absent := x(0, unit), x(0, unit-1)
	for _, c := range []struct {
		e          api.Extent
		off, width int
		v          uint64
		want       api.Errno
	}{
		{absent, -1, 3, math.MaxUint64, api.ErrAbsent}, {absent, 0, 1, 0, api.ErrAbsent},
		{e, -1, 3, math.MaxUint64, api.ErrArg}, {e, math.MaxInt, 0, 256, api.ErrArg}, {e, 0, 16, 0, api.ErrArg},
		{e, -1, 1, 256, api.ErrBounds}, {e, unit - 3, 4, math.MaxUint64, api.ErrBounds}, {e, math.MaxInt, 8, 0, api.ErrBounds}, {e, math.MinInt, 8, 0, api.ErrBounds},
		{e, unit - 4, 4, math.MaxUint64, api.ErrValue}, {e, unit - 4, 4, math.MaxUint32, api.OK},
	} {
		expect(t, "Store", p.store(c.e, c.off, c.width, c.v), c.want)
		if c.want == api.ErrValue {
			c.want = api.OK
		}
		_, code := p.load(c.e, c.off, c.width)
		expect(t, "Load", code, c.want)
		p.check()
	}
}

// P7.3: all offsets and lengths, in an extent between two others.
func TestReadAndWrite(t *testing.T) {
	p := filled(t, 3)
	e := x(unit, unit)
	for _, off := range around(unit) {
		for _, n := range around(unit) {
			p.read(e, off, n)
			if n < 0 || n > 4*unit {
				continue
			}
			b := pattern(n, 100+n)
			if p.write(e, off, b) == api.OK {
				if got, code := p.read(e, off, n); !bytes.Equal(got, b) || code != api.OK {
					t.Errorf("Read of %d, %d after Write of %v: got %v and %d", off, n, b, got, code)
				}
			}
			p.check()
		}
	}
}

// P7.3: the edges that the document names, and the order of the errors.
func TestOrderOfByteErrors(t *testing.T) {
	p := filled(t, 2)
	e, absent := x(0, unit), x(0, 2*unit)
	for _, c := range []struct {
		e      api.Extent
		off, n int
		want   api.Errno
	}{
		{absent, -1, -1, api.ErrAbsent}, {absent, 0, 1, api.ErrAbsent},
		{e, -1, -1, api.ErrArg}, {e, 0, -1, api.ErrArg}, {e, math.MaxInt, math.MinInt, api.ErrArg}, {e, unit + 1, -1, api.ErrArg},
		{e, -1, 0, api.ErrBounds}, {e, -1, 1, api.ErrBounds}, {e, unit + 1, 0, api.ErrBounds}, {e, unit, 1, api.ErrBounds},
		{e, 0, unit + 1, api.ErrBounds}, {e, math.MaxInt, math.MaxInt, api.ErrBounds}, {e, 1, math.MaxInt, api.ErrBounds}, {e, math.MinInt, 0, api.ErrBounds},
		{e, unit, 0, api.OK}, {e, 0, 0, api.OK}, {e, 0, unit, api.OK}, {e, unit - 1, 1, api.OK},
	} {
		b, code := p.read(c.e, c.off, c.n)
		expect(t, "Read", code, c.want)
		if code != api.OK && len(b) > 0 {
			t.Errorf("Read of %d, %d returned %v beside an error", c.off, c.n, b)
		}
		if c.n >= 0 && c.n <= 4*unit {
			expect(t, "Write", p.write(c.e, c.off, make([]byte, c.n)), c.want)
		}
		p.check()
	}
	expect(t, "Write of nil", p.write(e, unit, nil), api.OK)
	expect(t, "Write of nil beyond the end", p.write(e, unit+1, nil), api.ErrBounds)
}

// General rule 3: what Read and Bytes return is new memory, and Write keeps nothing of what it gets.
func TestNewMemory(t *testing.T) {
	p := filled(t, 2)
	e := x(0, unit)
	b, _ := p.read(e, 0, unit)
	b[0] = 200
	b = append(b[:unit-1], 201, 202)
	p.check()
	p.a.Bytes()[1] = 203
	p.check()
	b = []byte{1, 2, 3}
	p.write(e, 4, b)
	b[1] = 204
	p.check()
	b, _ = p.read(e, 0, unit)
	all := p.a.Bytes()
	p.store(e, 0, 1, 205)
	if b[0] == 205 || all[0] == 205 {
		t.Errorf("what was returned changed with the arena: got %v and %v", b, all)
	}
	p.free(e)
	list := p.a.FreeList()
	list[0] = x(0, 2*unit)
	p.check()
}

// P7.4: all offsets and lengths within one extent, from one to another, and back.
func TestCopy(t *testing.T) {
	middle, last := x(unit, unit), x(2*unit, unit)
	for _, c := range [][2]api.Extent{{middle, middle}, {middle, last}, {last, middle}} {
		for _, to := range around(unit) {
			for _, from := range around(unit) {
				p := filled(t, 3)
				for _, n := range around(unit) {
					p.copy(c[0], to, c[1], from, n)
				}
				p.check()
				for n := range unit + 1 {
					p := filled(t, 3)
					p.copy(c[0], to, c[1], from, n)
					p.check()
				}
			}
		}
	}
}

// P7.4: bytes that overlap, in both directions.
func TestCopyOverlaps(t *testing.T) {
	for _, c := range []struct {
		to, from, n int
		want        []byte
	}{
		{3, 1, 5, []byte{1, 2, 3, 2, 3, 4, 5, 6, 9, 10}},
		{1, 3, 5, []byte{1, 4, 5, 6, 7, 8, 7, 8, 9, 10}},
		{2, 2, 5, []byte{1, 2, 3, 4, 5, 6, 7, 8, 9, 10}},
	} {
		p := filled(t, 1)
		expect(t, "Copy", p.a.Copy(x(0, unit), c.to, x(0, unit), c.from, c.n), api.OK)
		if got := p.a.Bytes()[:len(c.want)]; !bytes.Equal(got, c.want) {
			t.Errorf("Copy of %d bytes from %d to %d: got %v, want %v", c.n, c.from, c.to, got, c.want)
		}
	}
}

// P7.4: the order of the errors, which is that of the kinds and not that of dst and src.
func TestOrderOfCopyErrors(t *testing.T) {
	p := filled(t, 2)
	e, f, absent := x(0, unit), x(unit, unit), x(0, 2*unit)
	for _, c := range []struct {
		dst     api.Extent
		to      int
		src     api.Extent
		from, n int
		want    api.Errno
	}{
		{absent, -1, e, -1, -1, api.ErrAbsent}, {e, -1, absent, -1, -1, api.ErrAbsent}, {absent, 0, absent, 0, 0, api.ErrAbsent},
		{e, unit + 1, absent, 0, 1, api.ErrAbsent}, {absent, 0, e, unit + 1, 1, api.ErrAbsent},
		{e, -1, f, -1, -1, api.ErrArg}, {e, 0, f, 0, math.MinInt, api.ErrArg}, {e, math.MaxInt, f, 0, -1, api.ErrArg},
		{e, -1, f, 0, 0, api.ErrBounds}, {e, 0, f, -1, 0, api.ErrBounds}, {e, unit + 1, f, 0, 0, api.ErrBounds}, {e, 0, f, unit + 1, 0, api.ErrBounds},
		{e, unit, f, 0, 1, api.ErrBounds}, {e, 0, f, unit, 1, api.ErrBounds}, {e, 1, f, 0, unit, api.ErrBounds}, {e, 0, f, 1, unit, api.ErrBounds},
		{e, 1, f, 0, math.MaxInt, api.ErrBounds}, {e, math.MaxInt, f, math.MaxInt, math.MaxInt, api.ErrBounds}, {e, math.MinInt, f, 0, 1, api.ErrBounds},
		{e, unit, f, unit, 0, api.OK}, {e, 0, f, 0, unit, api.OK}, {e, unit - 1, e, 0, 1, api.OK},
	} {
		expect(t, "Copy", p.copy(c.dst, c.to, c.src, c.from, c.n), c.want)
		p.check()
	}
}

// P7.4: a longer extent gives bytes to a shorter one, and each is held to its own length.
func TestCopyOfDifferentLengths(t *testing.T) {
	p := create(t, 8*unit)
	short, long := p.mustAlloc(unit), p.mustAlloc(4*unit)
	p.write(long, 0, pattern(4*unit, 1))
	expect(t, "Copy from the end", p.copy(short, 0, long, 3*unit, unit), api.OK)
	p.check()
	expect(t, "Copy of too many bytes", p.copy(short, 0, long, 0, unit+1), api.ErrBounds)
	expect(t, "Copy of too many bytes", p.copy(long, 0, short, 0, unit+1), api.ErrBounds)
	expect(t, "Copy to the end", p.copy(long, 3*unit, short, 0, unit), api.OK)
	expect(t, "Copy beyond the end", p.copy(long, 3*unit+1, short, 0, unit), api.ErrBounds)
	p.check()
}

// P7.5: the bytes at both ends of the greatest arena, and a full one that is freed in any order.
func TestWholeArena(t *testing.T) {
	p := create(t, api.MaxArena)
	var list []api.Extent
	for range api.MaxArena / api.MaxObject {
		e := p.mustAlloc(api.MaxObject)
		list = append(list, e)
		expect(t, "Store at the beginning", p.store(e, 0, 8, math.MaxUint64), api.OK)
		expect(t, "Store at the end", p.store(e, api.MaxObject-8, 8, 0x0123456789abcdef), api.OK)
		expect(t, "Store beyond the end", p.store(e, api.MaxObject-7, 8, 0), api.ErrBounds)
	}
	_, code := p.alloc(1)
	expect(t, "Alloc", code, api.ErrArena)
	p.check()
	rand.New(rand.NewSource(2)).Shuffle(len(list), func(i, j int) { list[i], list[j] = list[j], list[i] })
	for _, e := range list {
		expect(t, "Free", p.free(e), api.OK)
		p.check()
	}
	if got := p.a.FreeList(); !slices.Equal(got, []api.Extent{x(0, api.MaxArena)}) {
		t.Errorf("FreeList: got %v", got)
	}
}

// random is a source of arguments: mostly good ones, and some that are a little different, or extremes.
type random struct{ *rand.Rand }

func (r random) number(limit int) int {
	switch r.Intn(12) {
	case 0:
		return extremes()[r.Intn(len(extremes()))]
	case 1:
		return r.Intn(limit+5) - 2
	}
	return r.Intn(limit + 1)
}

func (r random) extent(list []api.Extent) api.Extent {
	if len(list) == 0 {
		return x(r.Intn(unit), r.Intn(2*unit))
	}
	e := list[r.Intn(len(list))]
	switch r.Intn(16) {
	case 0:
		e.Off += unit * (r.Intn(3) - 1)
	case 1:
		e.Len += unit * (r.Intn(3) - 1)
	}
	return e
}

// call makes one call of any kind on both sides of a pair.
func (r random) call(p *pair) {
	p.t.Helper()
	list := slices.Collect(p.m.parts.Allocated())
	e, f := r.extent(list), r.extent(list)
	width := []int{1, 2, 4, 8, 8, r.number(9)}[r.Intn(6)]
	switch r.Intn(10) {
	case 0, 1:
		p.alloc(r.number(1 + p.m.size>>r.Intn(6)))
	case 2:
		p.free(e)
	case 3, 4:
		p.store(e, r.number(e.Len), width, r.Uint64()>>r.Intn(64))
	case 5:
		p.load(e, r.number(e.Len), width)
	case 6:
		p.write(e, r.number(e.Len), pattern(r.Intn(20), r.Intn(256)))
	case 7:
		p.read(e, r.number(e.Len), r.number(20))
	case 8:
		p.copy(e, r.number(e.Len), f, r.number(f.Len), r.number(20))
	case 9:
		p.copy(e, r.number(e.Len), e, r.number(e.Len), r.number(40))
	}
}

// P7.1 to P7.5: long sequences of calls give what the model gives, in which the extents have bytes of their own.
func TestAgainstModel(t *testing.T) {
	r := random{rand.New(rand.NewSource(1))}
	for _, size := range []int{0, 1, 15, 16, 17, 47, 64, 100, 256, 1000, 5000, 70000} {
		p := create(t, size)
		for range 4000 {
			r.call(p)
			p.check()
		}
		for e := range p.m.parts.Allocated() {
			expect(t, "Free", p.free(e), api.OK)
		}
		if got := p.a.Bytes(); !bytes.Equal(got, make([]byte, size)) {
			t.Errorf("bytes are left in an arena of %d bytes after everything was freed", size)
		}
		p.check()
	}
}

// P7.5: the same calls on one extent return the same, whatever is in the others and wherever it lies.
func TestNothingOfOthers(t *testing.T) {
	use := func(a *Arena, e api.Extent, seed int64) []uint64 {
		r := random{rand.New(rand.NewSource(seed))}
		var seen []uint64
		for range 300 {
			v, load := a.Load(e, r.number(unit), 1<<r.Intn(4))
			b, read := a.Read(e, r.number(unit), r.number(unit))
			store := a.Store(e, r.number(unit), 1<<r.Intn(4), r.Uint64()>>r.Intn(64))
			copied := a.Copy(e, r.number(unit), e, r.number(unit), r.number(unit))
			seen = append(seen, v, uint64(load), uint64(read), uint64(store), uint64(copied), uint64(len(b)))
			for _, c := range b {
				seen = append(seen, uint64(c))
			}
		}
		return seen
	}
	alone := create(t, unit)
	want := use(alone.a, alone.mustAlloc(unit), 3)
	p := filled(t, 3)
	p.free(x(unit, unit))
	e := p.mustAlloc(unit)
	if got := use(p.a, e, 3); !slices.Equal(got, want) {
		t.Errorf("an extent beside others: got %v, want %v", got, want)
	}
	all := p.a.Bytes()
	if !bytes.Equal(all[:unit], pattern(unit, 1)) || !bytes.Equal(all[2*unit:], pattern(unit, 2*unit+1)) {
		t.Errorf("the others changed: got %v", all)
	}
}

// General rule 6: what happens in one arena is not seen in another one of the same size.
func TestIndependent(t *testing.T) {
	p, q := filled(t, 2), filled(t, 2)
	p.store(x(0, unit), 0, 8, math.MaxUint64)
	q.check()
	p.free(x(unit, unit))
	q.check()
	q.write(x(unit, unit), 0, []byte{9, 9, 9})
	p.check()
	q.check()
}
