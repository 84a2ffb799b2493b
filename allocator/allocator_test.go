package allocator

import (
	"math"
	"math/rand"
	"slices"
	"testing"

	"pluginhost/api"
	"pluginhost/extents"
	"pluginhost/sizeclass"
)

// unit is the smallest size, of which the small allocators of the tests have a few.
const unit = 16

func x(off, length int) api.Extent { return api.Extent{Off: off, Len: length} }

// model is an allocator by its definition: for each byte whether it is free, and the extents that were returned and not freed.
type model struct {
	free []bool
	live map[api.Extent]bool
}

func newModel(size int) *model {
	return &model{slices.Repeat([]bool{true}, size), map[api.Extent]bool{}}
}

// freeList returns the longest extents of free bytes.
func (m *model) freeList() []api.Extent {
	var list []api.Extent
	for off, free := range m.free {
		switch {
		case !free:
		case off > 0 && m.free[off-1]:
			list[len(list)-1].Len++
		default:
			list = append(list, x(off, 1))
		}
	}
	return list
}

// choose returns what Alloc is to return: it sorts all free extents that are long enough, and takes the first one.
func (m *model) choose(n int) (api.Extent, api.Errno) {
	size, code := sizeclass.Round(n)
	if code != api.OK {
		return api.Extent{}, code
	}
	list := slices.DeleteFunc(m.freeList(), func(e api.Extent) bool { return e.Len < size })
	slices.SortFunc(list, func(a, b api.Extent) int {
		if a.Len != b.Len {
			return a.Len - b.Len
		}
		return a.Off - b.Off
	})
	if len(list) == 0 {
		return api.Extent{}, api.ErrArena
	}
	return x(list[0].Off, size), api.OK
}

func (m *model) set(e api.Extent, free bool) {
	for off := e.Off; off < e.Off+e.Len; off++ {
		m.free[off] = free
	}
	if free {
		delete(m.live, e)
	} else {
		m.live[e] = true
	}
}

// allocated returns the live extents in ascending order of Off.
func (m *model) allocated() []api.Extent {
	var list []api.Extent
	for e := range m.live {
		list = append(list, e)
	}
	slices.SortFunc(list, func(a, b api.Extent) int { return a.Off - b.Off })
	return list
}

func create(t *testing.T, size int) *Allocator {
	t.Helper()
	a, code := New(size)
	if a == nil || code != api.OK {
		t.Fatalf("New of %d: got %v and %d", size, a, code)
	}
	return a
}

// filled returns an allocator of units, each of which is an allocated extent.
func filled(t *testing.T, units int) *Allocator {
	t.Helper()
	a := create(t, units*unit)
	for i := range units {
		checkAlloc(t, a, unit, x(i*unit, unit), api.OK)
	}
	return a
}

// checkAlloc checks Fits and then Alloc, which may differ only in that Alloc allocates.
func checkAlloc(t *testing.T, a *Allocator, n int, want api.Extent, wantError api.Errno) {
	t.Helper()
	if code := a.Fits(n); code != wantError {
		t.Errorf("Fits of %d: got %d, want %d", n, code, wantError)
	}
	if got, code := a.Alloc(n); got != want || code != wantError {
		t.Errorf("Alloc of %d: got %v and %d, want %v and %d", n, got, code, want, wantError)
	}
}

func checkFree(t *testing.T, a *Allocator, e api.Extent, want api.Errno) {
	t.Helper()
	if got := a.Has(e); got != (want == api.OK) {
		t.Errorf("Has of %v: got %v", e, got)
	}
	if got := a.Free(e); got != want {
		t.Errorf("Free of %v: got %d, want %d", e, got, want)
	}
	if a.Has(e) {
		t.Errorf("Has of %v after Free: got true", e)
	}
}

func checkState(t *testing.T, a *Allocator, free, allocated []api.Extent) {
	t.Helper()
	if got := a.FreeList(); !slices.Equal(got, free) {
		t.Errorf("FreeList: got %v, want %v", got, free)
	}
	if got := slices.Collect(a.Allocated()); !slices.Equal(got, allocated) {
		t.Errorf("Allocated: got %v, want %v", got, allocated)
	}
}

// extremes returns numbers at the bounds of the lengths, of the arena and of the integers.
func extremes() []int {
	return []int{
		math.MinInt, math.MinInt + 1, -api.MaxArena, -1, 0, 1, unit, api.MaxObject - 1, api.MaxObject, api.MaxObject + 1,
		api.MaxArena - 1, api.MaxArena, api.MaxArena + 1, math.MaxInt - 1, math.MaxInt,
	}
}

// The example of the document.
func TestExample(t *testing.T) {
	a := create(t, 64)
	checkAlloc(t, a, 20, x(0, 32), api.OK)
	checkAlloc(t, a, 16, x(32, 16), api.OK)
	checkAlloc(t, a, 16, x(48, 16), api.OK)
	checkFree(t, a, x(0, 32), api.OK)
	checkAlloc(t, a, 1, x(0, 16), api.OK)
}

// P6.1
func TestNew(t *testing.T) {
	for _, size := range []int{1, 15, 16, 17, api.MaxObject, api.MaxArena - 1, api.MaxArena} {
		checkState(t, create(t, size), []api.Extent{x(0, size)}, nil)
	}
	checkState(t, create(t, 0), nil, nil)
	for _, size := range []int{math.MinInt, -api.MaxArena, -2, -1, api.MaxArena + 1, math.MaxInt} {
		if a, code := New(size); a != nil || code != api.ErrArg {
			t.Errorf("New of %d: got %v and %d", size, a, code)
		}
	}
}

// P6.1: a nil or zero Allocator, and one of the size 0, which they behave like.
func TestWithoutBytes(t *testing.T) {
	var none *Allocator
	for _, a := range []*Allocator{none, {}, create(t, 0)} {
		for range 2 {
			for _, n := range []int{1, unit, api.MaxObject} {
				checkAlloc(t, a, n, api.Extent{}, api.ErrArena)
			}
			for _, n := range []int{math.MinInt, -1, 0} {
				checkAlloc(t, a, n, api.Extent{}, api.ErrArg)
			}
			for _, n := range []int{api.MaxObject + 1, math.MaxInt} {
				checkAlloc(t, a, n, api.Extent{}, api.ErrBig)
			}
			for _, e := range []api.Extent{{}, x(0, 1), x(0, unit), x(-1, unit), x(math.MaxInt, math.MaxInt)} {
				checkFree(t, a, e, api.ErrAbsent)
			}
			checkState(t, a, nil, nil)
		}
	}
}

// P6.2: the length of the extent, for all n.
func TestAllocRounds(t *testing.T) {
	a := create(t, api.MaxObject)
	for n := 1; n <= api.MaxObject; n++ {
		size, _ := sizeclass.Round(n)
		checkAlloc(t, a, n, x(0, size), api.OK)
		checkFree(t, a, x(0, size), api.OK)
	}
}

// P6.2: a free extent of exactly the rounded length is long enough, and one that is a byte shorter is not, even if it has n bytes.
func TestAllocExactly(t *testing.T) {
	last := 0
	for _, size := range sizeclass.Sizes() {
		for _, n := range []int{last + 1, size - 1, size} {
			a := create(t, size)
			checkAlloc(t, a, n, x(0, size), api.OK)
			checkState(t, a, nil, []api.Extent{x(0, size)})
			a = create(t, size+1)
			checkAlloc(t, a, n, x(0, size), api.OK)
			checkState(t, a, []api.Extent{x(size, 1)}, []api.Extent{x(0, size)})
			a = create(t, size-1)
			checkAlloc(t, a, n, api.Extent{}, api.ErrArena)
			checkState(t, a, []api.Extent{x(0, size-1)}, nil)
		}
		last = size
	}
}

// P6.2: the errors of Round come before ErrArena, and nothing changes with any of them.
func TestAllocErrors(t *testing.T) {
	full := create(t, 2*unit)
	checkAlloc(t, full, 2*unit, x(0, 2*unit), api.OK)
	for _, n := range []int{math.MinInt, -unit, -1, 0} {
		checkAlloc(t, full, n, api.Extent{}, api.ErrArg)
		checkAlloc(t, create(t, api.MaxArena), n, api.Extent{}, api.ErrArg)
	}
	for _, n := range []int{api.MaxObject + 1, api.MaxArena, api.MaxArena + 1, math.MaxInt} {
		checkAlloc(t, full, n, api.Extent{}, api.ErrBig)
		checkAlloc(t, create(t, api.MaxArena), n, api.Extent{}, api.ErrBig)
	}
	for _, n := range []int{1, unit, unit + 1, api.MaxObject} {
		checkAlloc(t, full, n, api.Extent{}, api.ErrArena)
	}
	checkState(t, full, nil, []api.Extent{x(0, 2*unit)})
}

// P6.2: enough free bytes are no free extent that is long enough.
func TestAllocInPieces(t *testing.T) {
	a := filled(t, 8)
	for i := 0; i < 8; i += 2 {
		checkFree(t, a, x(i*unit, unit), api.OK)
	}
	checkAlloc(t, a, unit+1, api.Extent{}, api.ErrArena)
	checkAlloc(t, a, 4*unit, api.Extent{}, api.ErrArena)
	checkAlloc(t, a, unit, x(0, unit), api.OK)
}

// P6.2: the shortest free extent that is long enough, and the first one of this length. All patterns of free units are tried with all lengths.
func TestShortest(t *testing.T) {
	const units = 9
	for pattern := range 1 << units {
		a, m := filled(t, units), newModel(units*unit)
		for i := range units {
			if e := x(i*unit, unit); pattern>>i&1 == 1 {
				checkFree(t, a, e, api.OK)
			} else {
				m.set(e, false)
			}
		}
		free, allocated := m.freeList(), m.allocated()
		checkState(t, a, free, allocated)
		for n := unit; n <= (units+1)*unit; n += unit {
			want, wantError := m.choose(n)
			checkAlloc(t, a, n, want, wantError)
			if wantError == api.OK {
				// P6.5: this restores the free set.
				checkFree(t, a, want, api.OK)
			}
			checkState(t, a, free, allocated)
		}
	}
}

// P6.2: Fits changes nothing.
func TestFitsChangesNothing(t *testing.T) {
	a := filled(t, 4)
	checkFree(t, a, x(unit, unit), api.OK)
	free, allocated := a.FreeList(), slices.Collect(a.Allocated())
	for _, n := range extremes() {
		for range 3 {
			a.Fits(n)
		}
		checkState(t, a, free, allocated)
	}
}

// P6.3: only exactly the extents that were returned can be freed, and each only once. All extents around the allocator are tried.
func TestFree(t *testing.T) {
	const size = 6 * unit
	build := func() *Allocator {
		a := create(t, size)
		checkAlloc(t, a, 2*unit, x(0, 2*unit), api.OK)
		checkAlloc(t, a, unit, x(2*unit, unit), api.OK)
		checkAlloc(t, a, unit, x(3*unit, unit), api.OK)
		checkAlloc(t, a, unit, x(4*unit, unit), api.OK)
		checkFree(t, a, x(3*unit, unit), api.OK)
		return a
	}
	free := []api.Extent{x(3*unit, unit), x(5*unit, unit)}
	allocated := []api.Extent{x(0, 2*unit), x(2*unit, unit), x(4*unit, unit)}
	a := build()
	for off := -2; off <= size+2; off++ {
		for length := -2; length <= size+2; length++ {
			if e := x(off, length); !slices.Contains(allocated, e) {
				checkFree(t, a, e, api.ErrAbsent)
			}
		}
	}
	for _, off := range extremes() {
		for _, length := range extremes() {
			checkFree(t, a, x(off, length), api.ErrAbsent)
		}
	}
	checkState(t, a, free, allocated)
	for i, e := range allocated {
		a := build()
		checkFree(t, a, e, api.OK)
		rest := slices.Delete(slices.Clone(allocated), i, i+1)
		want, _ := extents.Insert(free, e)
		checkState(t, a, want, rest)
		checkFree(t, a, e, api.ErrAbsent)
		checkState(t, a, want, rest)
	}
}

// P6.3: an extent that is returned again can be freed again, and the longer one that was there before cannot.
func TestFreeAgain(t *testing.T) {
	a := create(t, 2*unit)
	for range 3 {
		checkAlloc(t, a, 2*unit, x(0, 2*unit), api.OK)
		checkFree(t, a, x(0, 2*unit), api.OK)
		checkAlloc(t, a, 1, x(0, unit), api.OK)
		checkFree(t, a, x(0, 2*unit), api.ErrAbsent)
		checkAlloc(t, a, 1, x(unit, unit), api.OK)
		checkFree(t, a, x(0, 2*unit), api.ErrAbsent)
		checkState(t, a, nil, []api.Extent{x(0, unit), x(unit, unit)})
		checkFree(t, a, x(0, unit), api.OK)
		checkFree(t, a, x(unit, unit), api.OK)
		checkFree(t, a, x(0, 2*unit), api.ErrAbsent)
	}
}

// P6.4 and general rule 3: the free list is new memory.
func TestFreeListIsNew(t *testing.T) {
	a := filled(t, 4)
	checkFree(t, a, x(unit, unit), api.OK)
	list := a.FreeList()
	list[0] = x(0, 4*unit)
	list = append(list, x(3*unit, unit))
	checkState(t, a, []api.Extent{x(unit, unit)}, []api.Extent{x(0, unit), x(2*unit, unit), x(3*unit, unit)})
	checkAlloc(t, a, 2*unit, api.Extent{}, api.ErrArena)
	list = a.FreeList()
	checkAlloc(t, a, unit, x(unit, unit), api.OK)
	if want := []api.Extent{x(unit, unit)}; !slices.Equal(list, want) {
		t.Errorf("the list changed with the allocator: got %v, want %v", list, want)
	}
}

// P6.4: the order is that of Off and not that of the calls.
func TestAllocatedInOrder(t *testing.T) {
	a := filled(t, 5)
	for _, i := range []int{3, 0, 4, 1} {
		checkFree(t, a, x(i*unit, unit), api.OK)
	}
	checkAlloc(t, a, 2*unit, x(0, 2*unit), api.OK)
	checkFree(t, a, x(2*unit, unit), api.OK)
	checkAlloc(t, a, 3*unit, x(2*unit, 3*unit), api.OK)
	checkFree(t, a, x(0, 2*unit), api.OK)
	checkAlloc(t, a, unit, x(0, unit), api.OK)
	checkState(t, a, []api.Extent{x(unit, unit)}, []api.Extent{x(0, unit), x(2*unit, 3*unit)})
}

// P6.4 and general rule 7: a loop may stop anywhere, and the next one begins anew, even within another one.
func TestAllocatedAgain(t *testing.T) {
	a := filled(t, 5)
	checkFree(t, a, x(2*unit, unit), api.OK)
	want := []api.Extent{x(0, unit), x(unit, unit), x(3*unit, unit), x(4*unit, unit)}
	seq := a.Allocated()
	for stop := range want {
		var got []api.Extent
		for e := range seq {
			got = append(got, e)
			if len(got) > stop {
				break
			}
		}
		if !slices.Equal(got, want[:stop+1]) {
			t.Errorf("the first %d extents: got %v", stop+1, got)
		}
	}
	rounds := 0
	for range seq {
		if got := slices.Collect(seq); !slices.Equal(got, want) {
			t.Errorf("a loop within a loop: got %v, want %v", got, want)
		}
		rounds++
	}
	if rounds != len(want) {
		t.Errorf("the outer loop had %d rounds", rounds)
	}
	checkState(t, a, []api.Extent{x(2*unit, unit)}, want)
}

// P6.4 and general rule 7: a loop shows what was allocated when it began, not when the iterator was made, whatever happens within it.
func TestAllocatedAsTheLoopBegins(t *testing.T) {
	a := create(t, 8*unit)
	seq := a.Allocated()
	var want []api.Extent
	for i := range 4 {
		want = append(want, x(i*unit, unit))
		checkAlloc(t, a, unit, want[i], api.OK)
	}
	var got []api.Extent
	for e := range seq {
		got = append(got, e)
		if len(got) == 1 {
			for _, e := range want {
				checkFree(t, a, e, api.OK)
			}
			checkAlloc(t, a, 8*unit, x(0, 8*unit), api.OK)
		}
	}
	if !slices.Equal(got, want) {
		t.Errorf("extents that were freed in the loop: got %v, want %v", got, want)
	}
	checkFree(t, a, x(0, 8*unit), api.OK)
	checkAlloc(t, a, unit, x(0, unit), api.OK)
	got = nil
	for e := range seq {
		got = append(got, e)
		a.Alloc(unit)
	}
	if !slices.Equal(got, []api.Extent{x(0, unit)}) {
		t.Errorf("an extent that was allocated in the loop: got %v", got)
	}
	if got := slices.Collect(seq); !slices.Equal(got, []api.Extent{x(0, unit), x(unit, unit)}) {
		t.Errorf("the loop afterwards: got %v", got)
	}
}

// checkSound checks P6.5: the allocated extents do not overlap, and the free set is their complement.
func checkSound(t *testing.T, a *Allocator, size int) {
	t.Helper()
	var taken []api.Extent
	for e := range a.Allocated() {
		more, code := extents.Insert(taken, e)
		if code != api.OK {
			t.Fatalf("%v is allocated beside %v", e, taken)
		}
		taken = more
	}
	free, code := extents.Complement(taken, size)
	if code != api.OK {
		t.Fatalf("%v is allocated of %d bytes", taken, size)
	}
	if got := a.FreeList(); !extents.Valid(got) || !slices.Equal(got, free) {
		t.Errorf("the free set is %v, but the complement of the allocated extents is %v", got, free)
	}
}

// randomLength returns lengths of all classes that fit into size, and some that do not, or that are errors.
func randomLength(r *rand.Rand, size int) int {
	if r.Intn(20) == 0 {
		return extremes()[r.Intn(len(extremes()))]
	}
	return 1 + r.Intn(1+size>>r.Intn(8))
}

// randomExtent returns an extent of the list, or one that is a little different.
func randomExtent(r *rand.Rand, list []api.Extent) api.Extent {
	if len(list) == 0 {
		return x(r.Intn(unit), r.Intn(unit))
	}
	e := list[r.Intn(len(list))]
	switch r.Intn(8) {
	case 0:
		e.Off += unit * (r.Intn(3) - 1)
	case 1:
		e.Len += unit * (r.Intn(3) - 1)
	}
	return e
}

// P6.2 to P6.5: long sequences of calls give what the model gives.
func TestAgainstModel(t *testing.T) {
	r := rand.New(rand.NewSource(1))
	for _, size := range []int{0, 1, 15, 16, 17, 47, 100, 256, 1000, 3000, 9000, 70000} {
		a, m := create(t, size), newModel(size)
		calls := 600
		if size > 5000 {
			calls = 100
		}
		for range calls {
			if r.Intn(5) < 3 {
				n := randomLength(r, size)
				want, wantError := m.choose(n)
				before := a.FreeList()
				checkAlloc(t, a, n, want, wantError)
				if wantError == api.OK {
					// P6.5: freeing what was allocated last restores the free set.
					checkFree(t, a, want, api.OK)
					checkState(t, a, before, m.allocated())
					checkAlloc(t, a, n, want, api.OK)
					m.set(want, false)
				}
			} else {
				e := randomExtent(r, m.allocated())
				if m.live[e] {
					checkFree(t, a, e, api.OK)
					m.set(e, true)
				} else {
					checkFree(t, a, e, api.ErrAbsent)
				}
			}
			checkState(t, a, m.freeList(), m.allocated())
			checkSound(t, a, size)
		}
		for e := range a.Allocated() {
			checkFree(t, a, e, api.OK)
		}
		checkState(t, a, newModel(size).freeList(), nil)
	}
}

// permute calls f with all orders of list.
func permute(list []api.Extent, from int, f func()) {
	if from == len(list) {
		f()
		return
	}
	for i := from; i < len(list); i++ {
		list[from], list[i] = list[i], list[from]
		permute(list, from+1, f)
		list[from], list[i] = list[i], list[from]
	}
}

// P6.5: freeing everything, in any order, leaves a single free extent.
func TestFreeEverything(t *testing.T) {
	lengths := []int{20, 1, 200, 16, 130, 64}
	for _, size := range []int{640, 641, 1000, api.MaxArena} {
		a := create(t, size)
		var list []api.Extent
		for _, n := range lengths {
			e, code := a.Alloc(n)
			if code != api.OK {
				t.Fatalf("Alloc of %d in %d bytes: got %d", n, size, code)
			}
			list = append(list, e)
		}
		permute(list, 0, func() {
			a := create(t, size)
			for _, n := range lengths {
				a.Alloc(n)
			}
			for i, e := range list {
				checkFree(t, a, e, api.OK)
				if left := len(slices.Collect(a.Allocated())); left != len(list)-i-1 {
					t.Errorf("%d extents are left after %d calls of Free", left, i+1)
				}
			}
			checkState(t, a, []api.Extent{x(0, size)}, nil)
		})
	}
}

// P6.2 and P6.5: the whole arena in extents of the greatest size and of the smallest one.
func TestWholeArena(t *testing.T) {
	for _, n := range []int{api.MaxObject, unit} {
		a := create(t, api.MaxArena)
		var want []api.Extent
		for off := 0; off < api.MaxArena; off += n {
			want = append(want, x(off, n))
			checkAlloc(t, a, n, x(off, n), api.OK)
		}
		checkAlloc(t, a, 1, api.Extent{}, api.ErrArena)
		checkState(t, a, nil, want)
		for _, e := range slices.Backward(want) {
			checkFree(t, a, e, api.OK)
		}
		checkState(t, a, []api.Extent{x(0, api.MaxArena)}, nil)
	}
}

// General rule 6: what happens in one allocator is not seen in another one of the same size.
func TestIndependent(t *testing.T) {
	a, b := create(t, 4*unit), create(t, 4*unit)
	checkAlloc(t, a, unit, x(0, unit), api.OK)
	checkState(t, b, []api.Extent{x(0, 4*unit)}, nil)
	checkFree(t, b, x(0, unit), api.ErrAbsent)
	checkAlloc(t, b, 2*unit, x(0, 2*unit), api.OK)
	checkState(t, a, []api.Extent{x(unit, 3*unit)}, []api.Extent{x(0, unit)})
	checkState(t, b, []api.Extent{x(2*unit, 2*unit)}, []api.Extent{x(0, 2*unit)})
}
