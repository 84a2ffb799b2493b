package handletab

import (
	"math"
	"math/rand"
	"slices"
	"testing"

	"pluginhost/api"
	"pluginhost/generation"
)

// word returns the word with these parts, each of which must fit its bits.
func word(slot, gen, tag int) api.Handle {
	return api.Handle(slot) + api.Handle(gen)<<24 + api.Handle(tag)<<56
}

// model does what the document says, with a map of the live entries and all handles that were ever issued.
type model struct {
	n, retired int
	free       []int
	next       map[int]int // the generation that each slot has when it becomes live again, or has while it is live
	entries    map[int]api.Entry
	issued     map[api.Handle]bool
}

func newModel(n, first int) *model {
	m := &model{n: n, next: map[int]int{}, entries: map[int]api.Entry{}, issued: map[api.Handle]bool{}}
	for slot := range n {
		m.free, m.next[slot] = append(m.free, slot), first
	}
	return m
}

func (m *model) issue(owner, tag int, at api.Extent, draw uint64) (api.Handle, api.Errno) {
	if owner < 1 || owner > 64 || tag < 1 || tag > 255 {
		return 0, api.ErrArg
	}
	if len(m.free) == 0 {
		return 0, api.ErrSlots
	}
	i, last := draw%uint64(len(m.free)), len(m.free)-1
	slot := m.free[i]
	m.free[i] = m.free[last]
	m.free = m.free[:last]
	h := word(slot, m.next[slot], tag)
	m.entries[slot] = api.Entry{Handle: h, Owner: owner, Tag: tag, At: at}
	return h, api.OK
}

func (m *model) resolve(h api.Handle) (api.Entry, api.Errno) {
	slot, gen, tag := int(h%(1<<24)), int(h>>24%(1<<32)), int(h>>56)
	x, live := m.entries[slot]
	switch {
	case slot >= m.n:
		return api.Entry{}, api.ErrSlot
	case !live || gen != m.next[slot]:
		return api.Entry{}, api.ErrStale
	case tag != x.Tag:
		return api.Entry{}, api.ErrTag
	}
	return x, api.OK
}

func (m *model) drop(h api.Handle) api.Errno {
	x, e := m.resolve(h)
	if e != api.OK {
		return e
	}
	slot := int(x.Handle % (1 << 24))
	delete(m.entries, slot)
	if m.next[slot] == 1<<32-1 {
		m.retired++
	} else {
		m.free = append(m.free, slot)
	}
	m.next[slot]++
	return api.OK
}

func (m *model) give(h api.Handle, owner int) api.Errno {
	x, e := m.resolve(h)
	if e != api.OK {
		return e
	}
	if owner < 1 || owner > 64 {
		return api.ErrArg
	}
	x.Owner = owner
	m.entries[int(h%(1<<24))] = x
	return api.OK
}

// item is what a loop over All yields.
type item struct {
	slot  int
	entry api.Entry
}

// items returns what All must yield.
func (m *model) items() []item {
	var list []item
	for slot := range m.n {
		if x, live := m.entries[slot]; live {
			list = append(list, item{slot, x})
		}
	}
	return list
}

func collect(a *Table) []item {
	var list []item
	for slot, x := range a.All() {
		list = append(list, item{slot, x})
	}
	return list
}

func mustNew(t *testing.T, n, first int) *Table {
	t.Helper()
	a, e := New(n, first)
	if a == nil || e != api.OK {
		t.Fatalf("New of %d and %d: got %v and %d", n, first, a, e)
	}
	return a
}

func checkIssue(t *testing.T, a *Table, owner, tag int, at api.Extent, draw uint64, want api.Handle, e api.Errno) {
	t.Helper()
	if got, gotE := a.Issue(owner, tag, at, draw); got != want || gotE != e {
		t.Errorf("Issue of %d, %d, %v and %d: got %#x and %d, want %#x and %d", owner, tag, at, draw, got, gotE, want, e)
	}
}

func checkResolve(t *testing.T, a *Table, h api.Handle, want api.Entry, e api.Errno) {
	t.Helper()
	if got, gotE := a.Resolve(h); got != want || gotE != e {
		t.Errorf("Resolve of %#x: got %v and %d, want %v and %d", h, got, gotE, want, e)
	}
}

func checkDrop(t *testing.T, a *Table, h api.Handle, e api.Errno) {
	t.Helper()
	if got := a.Drop(h); got != e {
		t.Errorf("Drop of %#x: got %d, want %d", h, got, e)
	}
}

func checkGive(t *testing.T, a *Table, h api.Handle, owner int, e api.Errno) {
	t.Helper()
	if got := a.Give(h, owner); got != e {
		t.Errorf("Give of %#x to %d: got %d, want %d", h, owner, got, e)
	}
}

func checkItems(t *testing.T, a *Table, want ...item) {
	t.Helper()
	if got := collect(a); !slices.Equal(got, want) {
		t.Errorf("All: got %v, want %v", got, want)
	}
}

func checkSlots(t *testing.T, a *Table, retired int, pool ...int) {
	t.Helper()
	if got := a.Pool(); !slices.Equal(got, pool) {
		t.Errorf("Pool: got %v, want %v", got, pool)
	}
	if got := a.Full(); got != (len(pool) == 0) {
		t.Errorf("Full: got %v, where the pool is %v", got, pool)
	}
	if got := a.Retired(); got != retired {
		t.Errorf("Retired: got %d, want %d", got, retired)
	}
}

// checkUnresolved checks that a word is refused by all calls that take one, and that Give finds this before a wrong owner.
func checkUnresolved(t *testing.T, a *Table, h api.Handle, e api.Errno) {
	t.Helper()
	checkResolve(t, a, h, api.Entry{}, e)
	checkDrop(t, a, h, e)
	for _, owner := range []int{1, 0, -1, api.MaxPlugins, api.MaxPlugins + 1} {
		checkGive(t, a, h, owner, e)
	}
}

// check compares all that can be seen of a with the model, and resolves every handle that was ever issued.
func (m *model) check(t *testing.T, a *Table) {
	t.Helper()
	checkItems(t, a, m.items()...)
	checkSlots(t, a, m.retired, m.free...)
	for h := range m.issued {
		x, e := m.resolve(h)
		checkResolve(t, a, h, x, e)
	}
}

// checkIssue compares a call of Issue, and checks that no handle is issued twice.
func (m *model) checkIssue(t *testing.T, a *Table, owner, tag int, at api.Extent, draw uint64) api.Handle {
	t.Helper()
	h, e := m.issue(owner, tag, at, draw)
	checkIssue(t, a, owner, tag, at, draw, h, e)
	if m.issued[h] {
		t.Errorf("Issue: got %#x twice", h)
	}
	if e == api.OK {
		m.issued[h] = true
	}
	return h
}

func (m *model) checkDrop(t *testing.T, a *Table, h api.Handle) {
	t.Helper()
	checkDrop(t, a, h, m.drop(h))
}

func (m *model) checkGive(t *testing.T, a *Table, h api.Handle, owner int) {
	t.Helper()
	checkGive(t, a, h, owner, m.give(h, owner))
}

// notOwners returns numbers that are not in the range 1 to MaxPlugins, among them some whose low bits are.
func notOwners() []int {
	return []int{0, -1, -2, 65, 66, 128, 256, 257, -255, 1<<32 + 1, 1 - 1<<32, 1 << 62, math.MinInt, math.MinInt + 1, math.MaxInt}
}

// notTags returns numbers that are not in the range 1 to MaxTag, among them some whose low bits are.
func notTags() []int {
	return []int{0, -1, -2, 256, 257, 511, -255, 1<<32 + 1, 1 - 1<<32, 1 << 62, math.MinInt, math.MinInt + 1, math.MaxInt}
}

// The example of the document.
func TestExample(t *testing.T) {
	a := mustNew(t, 1, 1)
	checkIssue(t, a, 1, 7, api.Extent{Off: 0, Len: 16}, 0, 0x0700000001000000, api.OK)
	checkUnresolved(t, a, 0x0800000001000000, api.ErrTag)
	checkUnresolved(t, a, 0x0700000002000000, api.ErrStale)
	checkResolve(t, a, 0x0700000001000000, api.Entry{Handle: 0x0700000001000000, Owner: 1, Tag: 7, At: api.Extent{Off: 0, Len: 16}}, api.OK)
}

// P13.1: a new table has no entries, and its slots are those of generation.New, from 0 to MaxSlots.
func TestNew(t *testing.T) {
	for _, n := range []int{0, 1, 2, 3, 10, 255, 256, 257, api.MaxSlots - 1, api.MaxSlots} {
		for _, first := range []int{1, 2, api.MaxGen} {
			a, m := mustNew(t, n, first), newModel(n, first)
			m.check(t, a)
			for slot := range n {
				checkUnresolved(t, a, word(slot, first, 1), api.ErrStale)
			}
			checkUnresolved(t, a, word(n, first, 1), api.ErrSlot)
			m.check(t, a)
		}
	}
}

// P13.1: the errors are those of generation.New, with which there is no table.
func TestNewRefuses(t *testing.T) {
	for _, n := range []int{math.MinInt, -1 << 32, -2, -1, 0, 1, api.MaxSlots, api.MaxSlots + 1, api.MaxSlot, 1<<32 + 1, math.MaxInt} {
		for _, first := range []int{math.MinInt, 1 - 1<<32, -1, 0, 1, 7, api.MaxGen, api.MaxGen + 1, 1<<33 + 1, math.MaxInt} {
			_, want := generation.New(n, first)
			if a, e := New(n, first); e != want || (a == nil) != (want != api.OK) {
				t.Errorf("New of %d and %d: got %v and %d, want %d", n, first, a, e, want)
			}
		}
	}
}

// P13.1: a nil or zero Table has no slots, like a new one without slots.
func TestNoSlots(t *testing.T) {
	for _, a := range []*Table{nil, {}, mustNew(t, 0, 1), mustNew(t, 0, api.MaxGen)} {
		for _, draw := range []uint64{0, 1, math.MaxUint64} {
			checkIssue(t, a, 1, 1, api.Extent{}, draw, 0, api.ErrSlots)
			checkIssue(t, a, 64, 255, api.Extent{Off: 3, Len: 5}, draw, 0, api.ErrSlots)
			checkIssue(t, a, 0, 1, api.Extent{}, draw, 0, api.ErrArg)
			checkIssue(t, a, 1, 256, api.Extent{}, draw, 0, api.ErrArg)
		}
		for _, h := range []api.Handle{0, 1, 1 << 24, word(0, 1, 1), word(1, 1, 1), word(api.MaxSlot, api.MaxGen, api.MaxTag)} {
			checkUnresolved(t, a, h, api.ErrSlot)
		}
		checkItems(t, a)
		checkSlots(t, a, 0)
	}
}

// P13.2: all owners and all tags in range are stored and returned.
func TestIssueStores(t *testing.T) {
	for owner := 1; owner <= 64; owner++ {
		a, m := mustNew(t, 3, 5), newModel(3, 5)
		for i := range 4 {
			m.checkIssue(t, a, owner, 1+(owner*4+i)%255, api.Extent{Off: owner, Len: i}, uint64(owner+i))
			m.check(t, a)
		}
	}
	a, m := mustNew(t, 255, 1), newModel(255, 1)
	for tag := 1; tag <= 255; tag++ {
		m.checkIssue(t, a, 1+tag%64, tag, api.Extent{Off: -tag, Len: tag}, 0)
	}
	m.check(t, a)
}

// P13.2: the extent is stored as it is, whatever it is, also if another entry has the same one.
func TestIssueStoresAnyExtent(t *testing.T) {
	numbers := []int{0, 1, -1, 16, api.MaxArena, api.MaxArena + 1, 1 << 32, math.MinInt, math.MaxInt}
	for _, off := range numbers {
		for _, n := range numbers {
			a, m := mustNew(t, 2, 1), newModel(2, 1)
			m.checkIssue(t, a, 1, 1, api.Extent{Off: off, Len: n}, 0)
			m.checkIssue(t, a, 2, 2, api.Extent{Off: off, Len: n}, 0)
			m.check(t, a)
		}
	}
}

// P13.2: the draw chooses the slot as the pool of layer 11 does, and the handle contains the generation of the slot.
func TestIssueByDraws(t *testing.T) {
	for n := 1; n <= 8; n++ {
		draws := []uint64{math.MaxInt32, math.MaxUint32, math.MaxUint32 + 1, math.MaxInt64, math.MaxInt64 + 1, math.MaxUint64 - 1, math.MaxUint64}
		for draw := range 3 * n {
			draws = append(draws, uint64(draw))
		}
		for _, draw := range draws {
			a, m := mustNew(t, n, 9), newModel(n, 9)
			for range 3 {
				for len(m.free) > 0 {
					m.checkIssue(t, a, 1, 2, api.Extent{}, draw)
				}
				m.check(t, a)
				for _, x := range m.items()[n/2:] {
					m.checkDrop(t, a, x.entry.Handle)
				}
				m.check(t, a)
			}
		}
	}
}

// P13.2 and general rule 5: wrong owners and tags are refused, alone and together, also where no slot is free, and nothing changes.
func TestIssueRefuses(t *testing.T) {
	for n := range 3 {
		a, m := mustNew(t, n, 1), newModel(n, 1)
		if n > 0 {
			m.checkIssue(t, a, 3, 4, api.Extent{Off: 5, Len: 6}, 1)
		}
		for _, owner := range append(notOwners(), 1, 64) {
			for _, tag := range notTags() {
				checkIssue(t, a, owner, tag, api.Extent{}, 0, 0, api.ErrArg)
			}
		}
		for _, owner := range notOwners() {
			for _, tag := range []int{1, 2, 255} {
				checkIssue(t, a, owner, tag, api.Extent{}, 1, 0, api.ErrArg)
			}
		}
		m.check(t, a)
	}
}

// P13.2 and general rule 5: ErrSlots is returned for as long as all slots are live, and nothing changes.
func TestIssueWhereAllAreLive(t *testing.T) {
	a, m := mustNew(t, 2, 1), newModel(2, 1)
	m.checkIssue(t, a, 1, 1, api.Extent{}, 1)
	h := m.checkIssue(t, a, 2, 2, api.Extent{}, 0)
	for range 3 {
		checkIssue(t, a, 3, 3, api.Extent{}, 0, 0, api.ErrSlots)
		m.check(t, a)
	}
	m.checkDrop(t, a, h)
	checkIssue(t, a, 3, 3, api.Extent{}, 0, word(0, 2, 3), api.OK)
}

// P13.3: of all words that differ from a live handle in a single part, none is resolved, and the part tells the error.
func TestResolveOtherParts(t *testing.T) {
	a := mustNew(t, 5, 300)
	for draw := range uint64(3) {
		a.Issue(9, 77, api.Extent{Off: 1, Len: 2}, draw)
	}
	checkSlots(t, a, 0, 4, 3)
	before := collect(a)
	for _, slot := range []int{5, 6, 255, 256, 257, 258, api.MaxSlots, api.MaxSlots + 2, 1 << 16, 1<<23 + 2, api.MaxSlot} {
		checkUnresolved(t, a, word(slot, 300, 77), api.ErrSlot)
	}
	for _, slot := range []int{3, 4} {
		checkUnresolved(t, a, word(slot, 300, 77), api.ErrStale)
	}
	for _, gen := range []int{0, 1, 44, 299, 301, 556, 1<<16 + 300, 1<<31 + 300, api.MaxGen} {
		checkUnresolved(t, a, word(2, gen, 77), api.ErrStale)
	}
	for tag := range 256 {
		if tag != 77 {
			checkUnresolved(t, a, word(2, 300, tag), api.ErrTag)
		}
	}
	checkItems(t, a, before...)
	checkSlots(t, a, 0, 4, 3)
}

// P13.3: the errors come in the order of the parts, whatever the later ones are.
func TestResolveOrder(t *testing.T) {
	a := mustNew(t, 3, 2)
	checkIssue(t, a, 1, 5, api.Extent{}, 1, word(1, 2, 5), api.OK)
	for _, tag := range []int{0, 4, 5, 6, 255} {
		for _, gen := range []int{0, 1, 2, 3, api.MaxGen} {
			checkUnresolved(t, a, word(3, gen, tag), api.ErrSlot)
			checkUnresolved(t, a, word(api.MaxSlot, gen, tag), api.ErrSlot)
			checkUnresolved(t, a, word(0, gen, tag), api.ErrStale)
			checkUnresolved(t, a, word(2, gen, tag), api.ErrStale)
			if gen != 2 {
				checkUnresolved(t, a, word(1, gen, tag), api.ErrStale)
			} else if tag != 5 {
				checkUnresolved(t, a, word(1, gen, tag), api.ErrTag)
			}
		}
	}
}

// P13.3, P13.6: no word that differs from a live handle in one or two bits is resolved, unless it is another live handle.
func TestResolveOtherBits(t *testing.T) {
	a, m := mustNew(t, 6, 3), newModel(6, 3)
	for i := range 4 {
		m.checkIssue(t, a, 1+i, 10+i%2, api.Extent{Len: i}, uint64(i))
	}
	for h := range m.issued {
		for i := range 64 {
			for k := range i + 1 {
				other := h ^ 1<<i ^ 1<<k
				x, e := m.resolve(other)
				checkResolve(t, a, other, x, e)
			}
		}
	}
}

// P13.3, P13.4: a handle is stale once it was dropped, before and after its slot is live again, and with the other tag, too.
func TestDropMakesStale(t *testing.T) {
	a := mustNew(t, 2, 8)
	one, other := word(0, 8, 3), word(0, 9, 3)
	checkIssue(t, a, 1, 3, api.Extent{Off: 1}, 0, one, api.OK)
	checkDrop(t, a, one, api.OK)
	checkUnresolved(t, a, one, api.ErrStale)
	checkUnresolved(t, a, other, api.ErrStale)
	checkUnresolved(t, a, word(0, 8, 4), api.ErrStale)
	checkItems(t, a)
	checkSlots(t, a, 0, 1, 0)
	checkIssue(t, a, 2, 3, api.Extent{Off: 2}, 1, other, api.OK)
	checkUnresolved(t, a, one, api.ErrStale)
	entry := api.Entry{Handle: other, Owner: 2, Tag: 3, At: api.Extent{Off: 2}}
	checkResolve(t, a, other, entry, api.OK)
	checkItems(t, a, item{0, entry})
	checkSlots(t, a, 0, 1)
}

// P13.4, P13.5: Drop retires a slot with its last generation, and the handle is stale for good.
func TestDropRetires(t *testing.T) {
	a, m := mustNew(t, 3, api.MaxGen-1), newModel(3, api.MaxGen-1)
	for range 6 {
		h := m.checkIssue(t, a, 1, 255, api.Extent{}, 0)
		m.check(t, a)
		m.checkDrop(t, a, h)
		m.check(t, a)
	}
	if m.retired != 3 || !a.Full() || a.Retired() != 3 {
		t.Errorf("got %d retired slots, want 3", a.Retired())
	}
	checkIssue(t, a, 1, 1, api.Extent{}, 0, 0, api.ErrSlots)
	for slot := range 3 {
		checkUnresolved(t, a, word(slot, api.MaxGen, 255), api.ErrStale)
		checkUnresolved(t, a, word(slot, api.MaxGen-1, 255), api.ErrStale)
		checkUnresolved(t, a, word(slot, 0, 0), api.ErrStale)
	}
}

// P13.4: Give changes the owner, any number of times, also to the same one, and nothing else.
func TestGive(t *testing.T) {
	a, m := mustNew(t, 3, 1), newModel(3, 1)
	for i := range 3 {
		m.checkIssue(t, a, 7, 7, api.Extent{Off: i, Len: 9}, 0)
	}
	for owner := 1; owner <= 64; owner++ {
		for h := range m.issued {
			m.checkGive(t, a, h, owner)
			m.check(t, a)
			m.checkGive(t, a, h, owner)
			m.check(t, a)
		}
	}
}

// P13.4 and general rule 5: Give refuses wrong owners, and nothing changes.
func TestGiveRefuses(t *testing.T) {
	a, m := mustNew(t, 2, 1), newModel(2, 1)
	h := m.checkIssue(t, a, 7, 7, api.Extent{Off: 1, Len: 2}, 1)
	for _, owner := range notOwners() {
		checkGive(t, a, h, owner, api.ErrArg)
		m.check(t, a)
	}
}

// P13.5: All yields the slots in ascending order, in whatever order they were issued.
func TestAllAscends(t *testing.T) {
	for _, draws := range [][]uint64{{0, 0, 0, 0, 0}, {4, 3, 2, 1, 0}, {2, 2, 2, 1, 0}, {4, 0, 2, 1, 0}, {1, 3, 2, 0, 0}} {
		a, m := mustNew(t, 5, 1), newModel(5, 1)
		for i, draw := range draws {
			m.checkIssue(t, a, 10-i, 200-i, api.Extent{Off: i}, draw)
			m.check(t, a)
		}
	}
}

// P13.5 and general rule 7: a loop shows the entries as they are when it begins, while its body drops, gives and issues.
func TestAllWhileThingsChange(t *testing.T) {
	a, m := mustNew(t, 4, 1), newModel(4, 1)
	for i := range 3 {
		m.checkIssue(t, a, 1+i, 1+i, api.Extent{Off: i}, 0)
	}
	want := m.items()
	var got []item
	for slot, x := range a.All() {
		for _, y := range want {
			m.checkGive(t, a, y.entry.Handle, 60)
			m.checkDrop(t, a, y.entry.Handle)
		}
		m.checkIssue(t, a, 50, 50, api.Extent{}, 0)
		got = append(got, item{slot, x})
	}
	if !slices.Equal(got, want) {
		t.Errorf("All: got %v, want %v", got, want)
	}
	m.check(t, a)
}

// P13.5 and general rule 7: an iterator shows what there is when a loop over it begins, can be used again, also within a loop, and stopped.
func TestAllAgain(t *testing.T) {
	a, m := mustNew(t, 4, 1), newModel(4, 1)
	all := a.All()
	for range 5 {
		m.checkIssue(t, a, 2, 3, api.Extent{}, 1)
		want := m.items()
		for i := range len(want) {
			n := 0
			for slot, x := range all {
				if (item{slot, x}) != want[n] {
					t.Errorf("All: got %d and %v, want %v", slot, x, want[n])
				}
				for range all {
					break
				}
				if n++; n > i {
					break
				}
			}
			if n != i+1 {
				t.Errorf("All: got %d entries, want %d", n, i+1)
			}
		}
		m.check(t, a)
	}
}

// P13.5: Full is true exactly where each slot is live or retired.
func TestFull(t *testing.T) {
	a := mustNew(t, 2, api.MaxGen)
	checkSlots(t, a, 0, 0, 1)
	checkIssue(t, a, 1, 1, api.Extent{}, 0, word(0, api.MaxGen, 1), api.OK)
	checkSlots(t, a, 0, 1)
	checkDrop(t, a, word(0, api.MaxGen, 1), api.OK)
	checkSlots(t, a, 1, 1)
	checkIssue(t, a, 1, 1, api.Extent{}, 0, word(1, api.MaxGen, 1), api.OK)
	checkSlots(t, a, 1)
	checkDrop(t, a, word(1, api.MaxGen, 1), api.OK)
	checkSlots(t, a, 2)
}

// perform does one of the calls that TestAllSequences tries: Issue, and Drop and Give of the words with two slots, generations and tags.
func (m *model) perform(t *testing.T, a *Table, call, first int) {
	t.Helper()
	if call < 4 {
		m.checkIssue(t, a, 1+call, 1+call/2, api.Extent{Off: call}, uint64(call%2))
		return
	}
	call -= 4
	h := word(call%2, first+call/2%2, 1+call/4%2)
	if call < 8 {
		m.checkDrop(t, a, h)
	} else {
		m.checkGive(t, a, h, 7)
	}
}

// P13.2 to P13.6: all sequences of four calls on two slots, with first generations that let no slot, or all slots, retire soon.
func TestAllSequences(t *testing.T) {
	const kinds = 4 + 8 + 8
	for _, first := range []int{1, api.MaxGen - 1} {
		for number := range kinds * kinds * kinds * kinds {
			a, m := mustNew(t, 2, first), newModel(2, first)
			for rest := number + kinds*kinds*kinds*kinds; rest > 1; rest /= kinds {
				m.perform(t, a, rest%kinds, first)
			}
			m.check(t, a)
			if t.Failed() {
				t.Fatalf("first generation %d, sequence %d", first, number)
			}
		}
	}
}

// anyWord returns a handle that was issued, or a word that is near to one, or one that is not.
func anyWord(random *rand.Rand, issued []api.Handle) api.Handle {
	if len(issued) == 0 {
		return api.Handle(random.Uint64())
	}
	h := issued[max(0, len(issued)-1-random.Intn(40))]
	switch random.Intn(8) {
	case 0:
		return h ^ 1<<random.Intn(64)
	case 1:
		return h + 1<<24
	case 2:
		return api.Handle(random.Uint64() >> random.Intn(64))
	}
	return h
}

// P13.2 to P13.6: long sequences of calls, with draws of all sizes, and with wrong arguments among them.
func TestLongSequences(t *testing.T) {
	for seed := range int64(40) {
		random := rand.New(rand.NewSource(seed))
		n, first := 1+random.Intn(12), []int{1, api.MaxGen - 60, api.MaxGen - 2, 1<<16 - 5}[seed%4]
		a, m := mustNew(t, n, first), newModel(n, first)
		var issued []api.Handle
		for range 400 {
			h := anyWord(random, issued)
			switch random.Intn(4) {
			case 0, 1:
				at := api.Extent{Off: random.Intn(100), Len: random.Intn(100)}
				if h := m.checkIssue(t, a, random.Intn(67), random.Intn(258), at, random.Uint64()>>random.Intn(64)); h != 0 {
					issued = append(issued, h)
				}
			case 2:
				m.checkDrop(t, a, h)
			default:
				m.checkGive(t, a, h, random.Intn(67))
			}
			x, e := m.resolve(h)
			checkResolve(t, a, h, x, e)
			m.check(t, a)
		}
		if t.Failed() {
			t.Fatalf("seed %d", seed)
		}
	}
}

// P13.6: with the greatest number of slots, all of them are issued, dropped, and issued again with other handles.
func TestMostSlots(t *testing.T) {
	a, m := mustNew(t, api.MaxSlots, 1), newModel(api.MaxSlots, 1)
	for round := range uint64(3) {
		for i := range uint64(api.MaxSlots) {
			m.checkIssue(t, a, 1+int(i%64), 1+int(i%255), api.Extent{Off: int(i), Len: 1}, i*i+round)
		}
		m.check(t, a)
		checkIssue(t, a, 1, 1, api.Extent{}, round, 0, api.ErrSlots)
		for _, x := range m.items() {
			m.checkDrop(t, a, x.entry.Handle)
		}
		m.check(t, a)
	}
	if len(m.issued) != 3*api.MaxSlots {
		t.Errorf("got %d handles, want %d", len(m.issued), 3*api.MaxSlots)
	}
}

// P13.5 and general rule 3: what Pool returns is new memory.
func TestPoolIsNew(t *testing.T) {
	a := mustNew(t, 3, 1)
	list := a.Pool()
	list[0], list[1] = 9, 9
	checkSlots(t, a, 0, 0, 1, 2)
	checkIssue(t, a, 1, 1, api.Extent{}, 0, word(0, 1, 1), api.OK)
	if !slices.Equal(list, []int{9, 9, 2}) {
		t.Errorf("an earlier result: got %v", list)
	}
}

// General rule 6: tables that were made alike are independent.
func TestTablesAreIndependent(t *testing.T) {
	one, other := mustNew(t, 2, api.MaxGen), mustNew(t, 2, api.MaxGen)
	h := word(1, api.MaxGen, 1)
	checkIssue(t, one, 1, 1, api.Extent{}, 1, h, api.OK)
	newModel(2, api.MaxGen).check(t, other)
	checkUnresolved(t, other, h, api.ErrStale)
	checkIssue(t, other, 2, 1, api.Extent{Len: 1}, 1, h, api.OK)
	checkDrop(t, one, h, api.OK)
	checkSlots(t, one, 1, 0)
	checkResolve(t, other, h, api.Entry{Handle: h, Owner: 2, Tag: 1, At: api.Extent{Len: 1}}, api.OK)
	checkSlots(t, other, 0, 0)
}
