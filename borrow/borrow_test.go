package borrow

import (
	"cmp"
	"iter"
	"math"
	"math/rand"
	"slices"
	"testing"

	"pluginhost/api"
)

// loan is a single success of Lend that was not given back.
type loan struct{ object, holder, mode int }

// model does what the document says, with a list of all loans in the order in which they were made.
type model struct{ loans []loan }

// of returns what Of must return.
func (m *model) of(object int) []api.Borrow {
	var list []api.Borrow
	for _, b := range m.all() {
		if b.Object == object {
			list = append(list, b)
		}
	}
	return list
}

// all returns what All must yield.
func (m *model) all() []api.Borrow {
	counts := map[loan]int{}
	for _, x := range m.loans {
		counts[x]++
	}
	var list []api.Borrow
	for x, n := range counts {
		list = append(list, api.Borrow{Object: x.object, Holder: x.holder, Mode: x.mode, Count: n})
	}
	slices.SortFunc(list, func(a, b api.Borrow) int {
		return cmp.Or(cmp.Compare(a.Object, b.Object), cmp.Compare(a.Holder, b.Holder))
	})
	return list
}

func (m *model) holds(object, holder int) (api.Borrow, bool) {
	for _, b := range m.of(object) {
		if b.Holder == holder {
			return b, true
		}
	}
	return api.Borrow{}, false
}

func (m *model) held(holder int) int {
	n := 0
	for _, b := range m.all() {
		if b.Holder == holder {
			n++
		}
	}
	return n
}

// state tells how an object is lent: "free", "shared" or "exclusive".
func (m *model) state(object int) string {
	for _, x := range m.loans {
		if x.object == object && x.mode == 2 {
			return "exclusive"
		} else if x.object == object {
			return "shared"
		}
	}
	return "free"
}

func (m *model) lend(object, holder, mode int) api.Errno {
	if mode != 1 && mode != 2 {
		return api.ErrArg
	}
	if m.state(object) == "exclusive" || m.state(object) == "shared" && mode == 2 {
		return api.ErrBorrow
	}
	m.loans = append(m.loans, loan{object, holder, mode})
	return api.OK
}

func (m *model) release(object, holder int) api.Errno {
	i := slices.IndexFunc(m.loans, func(x loan) bool { return x.object == object && x.holder == holder })
	if i < 0 {
		return api.ErrForeign
	}
	m.loans = slices.Delete(m.loans, i, i+1)
	return api.OK
}

func (m *model) access(object, plugin int, owner bool, access int) api.Errno {
	if access < 1 || access > 4 {
		return api.ErrArg
	}
	if owner {
		return ownerCodes(m.state(object))[access-1]
	}
	state := "free"
	if _, held := m.holds(object, plugin); held {
		state = m.state(object)
	}
	return otherCodes(state)[access-1]
}

func (m *model) endObject(object int) []api.Borrow {
	list := m.of(object)
	m.loans = slices.DeleteFunc(m.loans, func(x loan) bool { return x.object == object })
	return list
}

func (m *model) endHolder(holder int) int {
	n := m.held(holder)
	m.loans = slices.DeleteFunc(m.loans, func(x loan) bool { return x.holder == holder })
	return n
}

// ownerCodes returns the errors of Read, Write, Own and Grant for the owner of an object that is lent so.
func ownerCodes(state string) []api.Errno {
	switch state {
	case "free":
		return []api.Errno{api.OK, api.OK, api.OK, api.OK}
	case "shared":
		return []api.Errno{api.OK, api.ErrBorrow, api.ErrBorrow, api.OK}
	}
	return []api.Errno{api.ErrBorrow, api.ErrBorrow, api.ErrBorrow, api.ErrBorrow}
}

// otherCodes returns the errors of Read, Write, Own and Grant for a plugin that is not the owner of an object, and to which it is lent so.
func otherCodes(state string) []api.Errno {
	switch state {
	case "free":
		return []api.Errno{api.ErrForeign, api.ErrForeign, api.ErrForeign, api.ErrForeign}
	case "shared":
		return []api.Errno{api.OK, api.ErrBorrow, api.ErrForeign, api.ErrForeign}
	}
	return []api.Errno{api.OK, api.OK, api.ErrForeign, api.ErrForeign}
}

func collect(l *Ledger) []api.Borrow {
	var list []api.Borrow
	for b := range l.All() {
		list = append(list, b)
	}
	return list
}

func mustNew(t *testing.T) *Ledger {
	t.Helper()
	l := New()
	if l == nil {
		t.Fatal("New: got nil")
	}
	checkAll(t, l)
	return l
}

func checkLend(t *testing.T, l *Ledger, object, holder, mode int, want api.Errno) {
	t.Helper()
	if got := l.Lend(object, holder, mode); got != want {
		t.Errorf("Lend of %d to %d as %d: got %d, want %d", object, holder, mode, got, want)
	}
}

func checkRelease(t *testing.T, l *Ledger, object, holder int, want api.Errno) {
	t.Helper()
	if got := l.Release(object, holder); got != want {
		t.Errorf("Release of %d by %d: got %d, want %d", object, holder, got, want)
	}
}

func checkAccess(t *testing.T, l *Ledger, object, plugin int, owner bool, access int, want api.Errno) {
	t.Helper()
	if got := l.Access(object, plugin, owner, access); got != want {
		t.Errorf("Access to %d by %d (owner: %v) for %d: got %d, want %d", object, plugin, owner, access, got, want)
	}
}

func checkHolds(t *testing.T, l *Ledger, object, holder int, want api.Borrow, held bool) {
	t.Helper()
	if got, gotHeld := l.Holds(object, holder); got != want || gotHeld != held {
		t.Errorf("Holds of %d by %d: got %v and %v, want %v and %v", object, holder, got, gotHeld, want, held)
	}
}

func checkOf(t *testing.T, l *Ledger, object int, want ...api.Borrow) {
	t.Helper()
	if got := l.Of(object); !slices.Equal(got, want) {
		t.Errorf("Of %d: got %v, want %v", object, got, want)
	}
}

func checkHeld(t *testing.T, l *Ledger, holder, want int) {
	t.Helper()
	if got := l.Held(holder); got != want {
		t.Errorf("Held by %d: got %d, want %d", holder, got, want)
	}
}

func checkEndObject(t *testing.T, l *Ledger, object int, want ...api.Borrow) {
	t.Helper()
	if got := l.EndObject(object); !slices.Equal(got, want) {
		t.Errorf("EndObject of %d: got %v, want %v", object, got, want)
	}
}

func checkEndHolder(t *testing.T, l *Ledger, holder, want int) {
	t.Helper()
	if got := l.EndHolder(holder); got != want {
		t.Errorf("EndHolder of %d: got %d, want %d", holder, got, want)
	}
}

func checkAll(t *testing.T, l *Ledger, want ...api.Borrow) {
	t.Helper()
	if got := collect(l); !slices.Equal(got, want) {
		t.Errorf("All: got %v, want %v", got, want)
	}
}

func (m *model) checkLend(t *testing.T, l *Ledger, object, holder, mode int) {
	t.Helper()
	checkLend(t, l, object, holder, mode, m.lend(object, holder, mode))
}

func (m *model) checkRelease(t *testing.T, l *Ledger, object, holder int) {
	t.Helper()
	checkRelease(t, l, object, holder, m.release(object, holder))
}

func (m *model) checkEndObject(t *testing.T, l *Ledger, object int) {
	t.Helper()
	checkEndObject(t, l, object, m.endObject(object)...)
}

func (m *model) checkEndHolder(t *testing.T, l *Ledger, holder int) {
	t.Helper()
	checkEndHolder(t, l, holder, m.endHolder(holder))
}

// check compares all that can be seen of l with the model, for these objects and plugins.
func (m *model) check(t *testing.T, l *Ledger, objects, plugins []int) {
	t.Helper()
	checkAll(t, l, m.all()...)
	for _, p := range plugins {
		checkHeld(t, l, p, m.held(p))
	}
	for _, object := range objects {
		checkOf(t, l, object, m.of(object)...)
		for _, p := range plugins {
			b, held := m.holds(object, p)
			checkHolds(t, l, object, p, b, held)
			for access := range 6 {
				checkAccess(t, l, object, p, true, access, m.access(object, p, true, access))
				checkAccess(t, l, object, p, false, access, m.access(object, p, false, access))
			}
		}
	}
}

// anyNumbers returns numbers of objects and plugins in ascending order, among them some that differ only in their sign or their high bits.
func anyNumbers() []int {
	return []int{math.MinInt, -1 << 32, -64, -2, -1, 0, 1, 2, 64, 65, api.MaxSlots, 1 << 32, 1<<32 + 1, math.MaxInt}
}

// notKinds returns numbers that are not in the range 1 to most, among them some whose low bits are.
func notKinds(most int) []int {
	return []int{0, -1, -2, most + 1, most + 2, 257, 258, -255, 1<<32 + 1, 1<<32 + 2, 1 - 1<<32, 1 << 62, math.MinInt, math.MinInt + 1, math.MaxInt}
}

// states returns a ledger for each way in which the object 5 is lent: not at all, as shared once, several times and to several plugins, and as exclusive. Other objects are lent in other ways beside it.
func states(t *testing.T) (map[string][]*Ledger, []int) {
	t.Helper()
	free, exclusive := mustNew(t), mustNew(t)
	once, twice, several := mustNew(t), mustNew(t), mustNew(t)
	checkLend(t, once, 5, 2, api.Shared, api.OK)
	for _, holder := range []int{2, 2} {
		checkLend(t, twice, 5, holder, api.Shared, api.OK)
	}
	for _, holder := range []int{4, 2, 3, 2} {
		checkLend(t, several, 5, holder, api.Shared, api.OK)
	}
	checkLend(t, exclusive, 5, 2, api.Exclusive, api.OK)
	all := map[string][]*Ledger{"free": {free}, "shared": {once, twice, several}, "exclusive": {exclusive}}
	for _, list := range all {
		for _, l := range list {
			checkLend(t, l, 4, 2, api.Exclusive, api.OK)
			checkLend(t, l, 6, 2, api.Shared, api.OK)
			checkLend(t, l, 6, 9, api.Shared, api.OK)
			checkLend(t, l, 7, 9, api.Exclusive, api.OK)
		}
	}
	return all, []int{1, 2, 9, -2, 0, 5}
}

// The example of the document.
func TestExample(t *testing.T) {
	l := mustNew(t)
	checkLend(t, l, 5, 2, api.Shared, api.OK)
	checkLend(t, l, 5, 2, api.Shared, api.OK)
	checkRelease(t, l, 5, 2, api.OK)
	checkAccess(t, l, 5, 2, false, api.Read, api.OK)
	checkAccess(t, l, 5, 1, true, api.Read, api.OK)
	checkAccess(t, l, 5, 1, true, api.Write, api.ErrBorrow)
}

// P14.1: objects and holders are any numbers, and each pair of them is a borrow of its own.
func TestLendAnyNumbers(t *testing.T) {
	for _, mode := range []int{api.Shared, api.Exclusive} {
		for _, object := range anyNumbers() {
			for _, holder := range anyNumbers() {
				l, m := mustNew(t), &model{}
				m.checkLend(t, l, object, holder, mode)
				checkAll(t, l, api.Borrow{Object: object, Holder: holder, Mode: mode, Count: 1})
				m.check(t, l, anyNumbers(), []int{holder, 7, -holder, holder + 1, object})
			}
		}
	}
}

// P14.1: an object can be lent to all holders as Shared, and each holder can have all objects.
func TestLendAllPairs(t *testing.T) {
	l, m := mustNew(t), &model{}
	for _, object := range anyNumbers() {
		for _, holder := range anyNumbers() {
			m.checkLend(t, l, object, holder, api.Shared)
		}
	}
	m.check(t, l, anyNumbers(), anyNumbers())
}

// P14.1: only the Count of the same holder's borrow of the same object grows.
func TestLendCounts(t *testing.T) {
	l := mustNew(t)
	checkLend(t, l, 1, 2, api.Shared, api.OK)
	checkLend(t, l, 1, 3, api.Shared, api.OK)
	checkLend(t, l, 2, 2, api.Shared, api.OK)
	for n := 2; n <= 300; n++ {
		checkLend(t, l, 1, 2, api.Shared, api.OK)
		want := api.Borrow{Object: 1, Holder: 2, Mode: api.Shared, Count: n}
		checkHolds(t, l, 1, 2, want, true)
		checkAll(t, l, want, api.Borrow{Object: 1, Holder: 3, Mode: api.Shared, Count: 1}, api.Borrow{Object: 2, Holder: 2, Mode: api.Shared, Count: 1})
	}
	checkHeld(t, l, 2, 2)
}

// P14.1 and general rule 5: unknown modes are refused with ErrArg, however the object is lent, and nothing changes.
func TestLendRefusesModes(t *testing.T) {
	all, holders := states(t)
	for _, list := range all {
		for _, l := range list {
			before := collect(l)
			for _, mode := range notKinds(2) {
				for _, holder := range holders {
					checkLend(t, l, 5, holder, mode, api.ErrArg)
				}
			}
			checkAll(t, l, before...)
		}
	}
}

// P14.1 and general rule 5: an object that is lent cannot be lent as Exclusive, and one that is lent as Exclusive not at all, also to the same holder; nothing changes.
func TestLendRefusesConflicts(t *testing.T) {
	all, holders := states(t)
	for state, list := range all {
		for _, l := range list {
			before := collect(l)
			for _, holder := range holders {
				if state != "free" {
					checkLend(t, l, 5, holder, api.Exclusive, api.ErrBorrow)
				}
				if state == "exclusive" {
					checkLend(t, l, 5, holder, api.Shared, api.ErrBorrow)
				}
			}
			checkAll(t, l, before...)
		}
	}
}

// P14.2: each Release takes one from the Count, the last one removes the borrow, and one more is refused.
func TestReleaseCounts(t *testing.T) {
	for n := range 6 {
		l, m := mustNew(t), &model{}
		for range n {
			m.checkLend(t, l, 1, 2, api.Shared)
		}
		m.checkLend(t, l, 1, 3, api.Shared)
		m.checkLend(t, l, 2, 2, api.Shared)
		for range n {
			checkRelease(t, l, 1, 2, api.OK)
			m.release(1, 2)
			m.check(t, l, []int{1, 2}, []int{2, 3})
		}
		checkRelease(t, l, 1, 2, api.ErrForeign)
		m.check(t, l, []int{1, 2}, []int{2, 3})
	}
}

// P14.2: after the last Release, the object can be lent in the other mode, and not before.
func TestReleaseFrees(t *testing.T) {
	l := mustNew(t)
	checkLend(t, l, 1, 2, api.Exclusive, api.OK)
	checkRelease(t, l, 1, 2, api.OK)
	checkAll(t, l)
	for _, holder := range []int{3, 2, 3} {
		checkLend(t, l, 1, holder, api.Shared, api.OK)
	}
	for _, holder := range []int{3, 2, 3} {
		checkLend(t, l, 1, 4, api.Exclusive, api.ErrBorrow)
		checkRelease(t, l, 1, holder, api.OK)
	}
	checkAll(t, l)
	checkLend(t, l, 1, 4, api.Exclusive, api.OK)
	checkAll(t, l, api.Borrow{Object: 1, Holder: 4, Mode: api.Exclusive, Count: 1})
}

// P14.2: holders can give back in any order.
func TestReleaseOrders(t *testing.T) {
	holders := []int{-3, 0, 2, 7}
	for calls := range sequences(len(holders), 4) {
		l, m := mustNew(t), &model{}
		for _, holder := range holders {
			m.checkLend(t, l, 1, holder, api.Shared)
		}
		for _, call := range calls {
			m.checkRelease(t, l, 1, holders[call])
			m.check(t, l, []int{1}, holders)
		}
	}
}

// P14.2 and general rule 5: a borrow that is not there cannot be given back, also where there are ones with the same object or the same holder; nothing changes.
func TestReleaseRefuses(t *testing.T) {
	all, _ := states(t)
	for _, list := range all {
		for _, l := range list {
			before := collect(l)
			for _, holder := range []int{1, 9, -2, 0, 5, math.MinInt, math.MaxInt, 1<<32 + 2} {
				checkRelease(t, l, 5, holder, api.ErrForeign)
			}
			for _, object := range []int{-5, 0, 1, 2, 3, 8, 7, 1<<32 + 4, math.MinInt, math.MaxInt} {
				checkRelease(t, l, object, 2, api.ErrForeign)
			}
			checkAll(t, l, before...)
		}
	}
}

// P14.3: the errors of all accesses in all states of an object, for its owner, for a holder, and for another plugin.
func TestAccess(t *testing.T) {
	all, plugins := states(t)
	for state, list := range all {
		for _, l := range list {
			before := collect(l)
			for i, access := range []int{api.Read, api.Write, api.Own, api.Grant} {
				for _, p := range plugins {
					checkAccess(t, l, 5, p, true, access, ownerCodes(state)[i])
				}
				checkAccess(t, l, 5, 2, false, access, otherCodes(state)[i])
				for _, p := range []int{1, 9, -2, 0, 5, 1<<32 + 2} {
					checkAccess(t, l, 5, p, false, access, api.ErrForeign)
				}
			}
			checkAll(t, l, before...)
		}
	}
}

// P14.3: each holder of a shared object may read it, and none of them may do more.
func TestAccessOfAllHolders(t *testing.T) {
	l := mustNew(t)
	for _, holder := range anyNumbers() {
		checkLend(t, l, 5, holder, api.Shared, api.OK)
	}
	for _, holder := range anyNumbers() {
		for i, want := range otherCodes("shared") {
			checkAccess(t, l, 5, holder, false, 1+i, want)
			checkAccess(t, l, 5, holder-10, false, 1+i, api.ErrForeign)
		}
	}
}

// P14.3: unknown accesses are refused with ErrArg before anything else, for all plugins and in all states.
func TestAccessRefusesKinds(t *testing.T) {
	all, plugins := states(t)
	for _, list := range all {
		for _, l := range append(list, nil, &Ledger{}) {
			for _, access := range append(notKinds(4), 5, 6) {
				for _, p := range plugins {
					checkAccess(t, l, 5, p, true, access, api.ErrArg)
					checkAccess(t, l, 5, p, false, access, api.ErrArg)
				}
			}
		}
	}
}

// permutations yields all orders of the numbers from 0 to n - 1.
func permutations(n int) iter.Seq[[]int] {
	return func(yield func([]int) bool) {
		for list := range sequences(n, n) {
			different := slices.Compact(slices.Sorted(slices.Values(list)))
			if len(different) == n && !yield(list) {
				return
			}
		}
	}
}

// P14.4: Of and All list the borrows in ascending order, in whatever order they were lent.
func TestOrders(t *testing.T) {
	pairs := []loan{{-3, 1, 2}, {0, -9, 1}, {0, 5, 1}, {0, 1 << 40, 1}, {2, -1, 1}, {2, 0, 1}}
	for order := range permutations(len(pairs)) {
		l, m := New(), &model{}
		for _, i := range order {
			m.checkLend(t, l, pairs[i].object, pairs[i].holder, pairs[i].mode)
		}
		var want []api.Borrow
		for _, x := range pairs {
			want = append(want, api.Borrow{Object: x.object, Holder: x.holder, Mode: x.mode, Count: 1})
		}
		checkAll(t, l, want...)
		checkOf(t, l, -3, want[:1]...)
		checkOf(t, l, 0, want[1:4]...)
		checkOf(t, l, 2, want[4:]...)
		checkOf(t, l, 1)
		checkEndObject(t, l, 0, want[1:4]...)
	}
}

// P14.4: Held counts objects of both modes, each of them once, and no borrows of others.
func TestHeld(t *testing.T) {
	l := mustNew(t)
	for object := range 10 {
		checkHeld(t, l, 7, object)
		checkLend(t, l, object, 7, 1+object%2, api.OK)
		checkHeld(t, l, 7, object+1)
		if object%2 == 0 {
			checkLend(t, l, object, 7, api.Shared, api.OK)
			checkLend(t, l, object, 8, api.Shared, api.OK)
		}
		checkHeld(t, l, 7, object+1)
		checkHeld(t, l, 8, object/2+1)
	}
	checkHeld(t, l, -7, 0)
	checkRelease(t, l, 0, 7, api.OK)
	checkHeld(t, l, 7, 10)
	checkRelease(t, l, 0, 7, api.OK)
	checkHeld(t, l, 7, 9)
}

// P14.4 and general rule 7: a loop shows the borrows as they are when it begins, while its body lends, releases and ends.
func TestAllWhileThingsChange(t *testing.T) {
	for change := range 5 {
		l, m := mustNew(t), &model{}
		for _, x := range []loan{{1, 2, 1}, {1, 3, 1}, {1, 3, 1}, {2, 3, 2}, {4, 2, 1}} {
			m.checkLend(t, l, x.object, x.holder, x.mode)
		}
		want := m.all()
		var got []api.Borrow
		for b := range l.All() {
			switch change {
			case 0:
				m.checkLend(t, l, 1, -b.Holder, api.Shared)
				m.checkLend(t, l, b.Object+2, 3, api.Shared)
			case 1:
				m.checkRelease(t, l, 1, 2)
				m.checkRelease(t, l, 1, 3)
			case 2:
				m.checkEndObject(t, l, 1)
				m.checkLend(t, l, 1, 9, api.Exclusive)
			case 3:
				m.checkEndHolder(t, l, 3)
			default:
				m.checkEndObject(t, l, b.Object+1)
			}
			got = append(got, b)
		}
		if !slices.Equal(got, want) {
			t.Errorf("All with the change %d: got %v, want %v", change, got, want)
		}
		m.check(t, l, []int{1, 2, 3, 4, 6}, []int{2, 3, -2, 9})
	}
}

// P14.4 and general rule 7: an iterator shows what there is when a loop over it begins, can be used again, also within a loop, and stopped.
func TestAllAgain(t *testing.T) {
	l, m := mustNew(t), &model{}
	all := l.All()
	for round := range 6 {
		m.checkLend(t, l, -round/2, round, api.Shared)
		want := m.all()
		for i := range want {
			n := 0
			for b := range all {
				if b != want[n] {
					t.Errorf("All: got %v, want %v", b, want[n])
				}
				for range all {
					break
				}
				if n++; n > i {
					break
				}
			}
			if n != i+1 {
				t.Errorf("All: got %d borrows, want %d", n, i+1)
			}
		}
		checkAll(t, l, want...)
	}
	m.checkEndObject(t, l, 0)
	if got, want := slices.Collect(all), m.all(); !slices.Equal(got, want) {
		t.Errorf("All: got %v, want %v", got, want)
	}
}

// P14.5: EndObject removes the borrows of one object with all their counts, so that it can be lent anew, and no others.
func TestEndObject(t *testing.T) {
	all, plugins := states(t)
	for state, list := range all {
		for _, l := range list {
			before, borrows := collect(l), l.Of(5)
			if (len(borrows) == 0) != (state == "free") {
				t.Errorf("Of 5: got %v", borrows)
			}
			checkEndObject(t, l, 5, borrows...)
			checkEndObject(t, l, 5)
			checkEndObject(t, l, 1<<32+5)
			rest := slices.DeleteFunc(before, func(b api.Borrow) bool { return b.Object == 5 })
			checkAll(t, l, rest...)
			for _, p := range plugins {
				checkRelease(t, l, 5, p, api.ErrForeign)
			}
			checkLend(t, l, 5, 1, api.Exclusive, api.OK)
			checkEndObject(t, l, 5, api.Borrow{Object: 5, Holder: 1, Mode: api.Exclusive, Count: 1})
			checkAll(t, l, rest...)
		}
	}
}

// P14.5: EndHolder removes the borrows of one holder with all their counts, counts each of them once, and removes no others.
func TestEndHolder(t *testing.T) {
	l, m := mustNew(t), &model{}
	for object, n := range []int{1, 3, 1, 2, 1} {
		for range n {
			m.checkLend(t, l, object, 7, api.Shared)
		}
	}
	m.checkLend(t, l, 9, 7, api.Exclusive)
	m.checkLend(t, l, 8, 6, api.Exclusive)
	for object, holder := range []int{6, 8, 7, -7} {
		m.checkLend(t, l, object, holder, api.Shared)
	}
	checkEndHolder(t, l, 5, 0)
	checkEndHolder(t, l, 1<<32+7, 0)
	checkEndHolder(t, l, 7, 6)
	m.endHolder(7)
	numbers := []int{-7, 0, 1, 2, 3, 4, 6, 7, 8, 9}
	m.check(t, l, numbers, numbers)
	checkEndHolder(t, l, 7, 0)
	for _, object := range []int{2, 4, 9} {
		m.checkLend(t, l, object, 1, api.Exclusive)
	}
	m.check(t, l, numbers, numbers)
}

// P14.6: a nil Ledger contains no borrows, and nothing can be lent.
func TestNilLedger(t *testing.T) {
	var l *Ledger
	for range 2 {
		for _, mode := range append(notKinds(2), api.Shared, api.Exclusive) {
			checkLend(t, l, 1, 2, mode, api.ErrArg)
		}
		checkRelease(t, l, 1, 2, api.ErrForeign)
		checkEndObject(t, l, 1)
		checkEndHolder(t, l, 2, 0)
		(&model{}).check(t, l, anyNumbers(), anyNumbers())
	}
}

// P14.6: a zero Ledger contains no borrows at first, and can be used like a new one.
func TestZeroLedger(t *testing.T) {
	for call := range 16 {
		l, m := &Ledger{}, &model{}
		m.check(t, l, []int{0, 1}, []int{0, 1})
		m.perform(t, l, call)
		m.check(t, l, []int{0, 1}, []int{0, 1})
	}
	l, m := &Ledger{}, &model{}
	for object := range 3 {
		m.checkLend(t, l, object, 7-object, 1+object%2)
		m.check(t, l, []int{0, 1, 2}, []int{5, 6, 7})
	}
}

// checkExclusion checks P14.7 for an object and all of its possible owners among the plugins.
func checkExclusion(t *testing.T, l *Ledger, object int, plugins []int) {
	t.Helper()
	list := l.Of(object)
	for _, b := range list {
		if b.Mode == api.Exclusive && (len(list) != 1 || b.Count != 1) {
			t.Errorf("Of %d: got %v", object, list)
		}
	}
	for _, owner := range plugins {
		readers, writers := 0, 0
		for _, p := range plugins {
			if l.Access(object, p, p == owner, api.Read) == api.OK {
				readers++
			}
			if l.Access(object, p, p == owner, api.Write) == api.OK {
				writers++
			}
		}
		if writers > 1 || writers == 1 && readers != 1 {
			t.Errorf("the object %d with the owner %d: %d may write and %d may read", object, owner, writers, readers)
		}
	}
}

// perform does one of the 16 calls that TestAllSequences tries, with the objects and holders 0 and 1.
func (m *model) perform(t *testing.T, l *Ledger, call int) {
	t.Helper()
	switch object, holder := call%2, call/2%2; call / 4 {
	case 0, 1:
		m.checkLend(t, l, object, holder, 1+call/4)
	case 2:
		m.checkRelease(t, l, object, holder)
	default:
		if holder == 0 {
			m.checkEndObject(t, l, object)
		} else {
			m.checkEndHolder(t, l, object)
		}
	}
}

// sequences yields all lists of this length with numbers below kinds. The list that is yielded changes afterwards.
func sequences(kinds, length int) iter.Seq[[]int] {
	return func(yield func([]int) bool) {
		list := make([]int, length)
		for yield(list) {
			i := 0
			for i < length && list[i] == kinds-1 {
				list[i] = 0
				i++
			}
			if i == length {
				return
			}
			list[i]++
		}
	}
}

// P14.1 to P14.5 and P14.7: all sequences of four calls with two objects and two holders.
func TestAllSequences(t *testing.T) {
	for calls := range sequences(16, 4) {
		l, m := New(), &model{}
		for _, call := range calls {
			m.perform(t, l, call)
		}
		m.check(t, l, []int{0, 1}, []int{0, 1, 2})
		checkExclusion(t, l, 0, []int{0, 1, 2})
		checkExclusion(t, l, 1, []int{0, 1, 2})
		if t.Failed() {
			t.Fatalf("calls %v", calls)
		}
	}
}

// P14.1 to P14.5 and P14.7: long sequences of calls, with few or many objects and holders, and with wrong modes among them.
func TestLongSequences(t *testing.T) {
	for seed := range int64(40) {
		random := rand.New(rand.NewSource(seed))
		objects := anyNumbers()[seed%7 : 9+seed%5]
		plugins := anyNumbers()[seed%5 : 8+seed%7]
		l, m := mustNew(t), &model{}
		for range 250 {
			object, p := objects[random.Intn(len(objects))], plugins[random.Intn(len(plugins))]
			switch random.Intn(24) {
			case 0:
				m.checkEndObject(t, l, object)
			case 1:
				m.checkEndHolder(t, l, p)
			case 2, 3, 4, 5, 6, 7:
				m.checkRelease(t, l, object, p)
			case 8, 9, 10:
				m.checkLend(t, l, object, p, random.Intn(4))
			default:
				m.checkLend(t, l, object, p, api.Shared)
			}
			m.check(t, l, []int{object}, []int{p})
			checkExclusion(t, l, object, plugins)
		}
		m.check(t, l, objects, plugins)
		if t.Failed() {
			t.Fatalf("seed %d", seed)
		}
	}
}

// P14.1 to P14.5: all slots are lent to all plugins, and then end by objects and by holders.
func TestMostBorrows(t *testing.T) {
	l := mustNew(t)
	for i := range api.MaxSlots * api.MaxPlugins {
		// The factor is odd, so each pair comes once.
		pair := i * 40503 % (api.MaxSlots * api.MaxPlugins)
		checkLend(t, l, pair/api.MaxPlugins, 1+pair%api.MaxPlugins, api.Shared, api.OK)
	}
	n := 0
	for b := range l.All() {
		if want := (api.Borrow{Object: n / api.MaxPlugins, Holder: 1 + n%api.MaxPlugins, Mode: api.Shared, Count: 1}); b != want {
			t.Fatalf("All: got %v, want %v", b, want)
		}
		n++
	}
	for object := range api.MaxSlots / 2 {
		if list := l.EndObject(object); len(list) != api.MaxPlugins {
			t.Fatalf("EndObject of %d: got %v", object, list)
		}
	}
	for holder := 1; holder <= api.MaxPlugins; holder++ {
		checkHeld(t, l, holder, api.MaxSlots/2)
		checkEndHolder(t, l, holder, api.MaxSlots/2)
	}
	checkAll(t, l)
}

// P14.4, P14.5 and general rule 3: what Of and EndObject return is new memory.
func TestResultsAreNew(t *testing.T) {
	l, m := mustNew(t), &model{}
	for _, holder := range []int{2, 4, 6} {
		m.checkLend(t, l, 1, holder, api.Shared)
	}
	list, other := l.Of(1), l.Of(1)
	clear(list)
	_ = append(list[:1], api.Borrow{Object: 1, Holder: 9, Mode: api.Exclusive, Count: 9})
	m.check(t, l, []int{1}, []int{2, 4, 6, 9})
	want := m.of(1)
	m.checkLend(t, l, 1, 2, api.Shared)
	m.checkRelease(t, l, 1, 4)
	m.checkLend(t, l, 1, 3, api.Shared)
	if !slices.Equal(other, want) {
		t.Errorf("an earlier result: got %v, want %v", other, want)
	}
	want = m.of(1)
	ended := l.EndObject(1)
	m.endObject(1)
	for _, holder := range []int{8, 7} {
		m.checkLend(t, l, 1, holder, api.Shared)
	}
	if !slices.Equal(ended, want) {
		t.Errorf("an earlier result: got %v, want %v", ended, want)
	}
	clear(ended)
	m.check(t, l, []int{1}, []int{2, 3, 4, 6, 7, 8})
}

// General rule 6: ledgers that were made alike are independent.
func TestLedgersAreIndependent(t *testing.T) {
	one, other := mustNew(t), mustNew(t)
	checkLend(t, one, 1, 2, api.Exclusive, api.OK)
	checkAll(t, other)
	checkLend(t, other, 1, 3, api.Shared, api.OK)
	checkEndObject(t, one, 1, api.Borrow{Object: 1, Holder: 2, Mode: api.Exclusive, Count: 1})
	checkEndHolder(t, one, 3, 0)
	checkAll(t, one)
	checkAll(t, other, api.Borrow{Object: 1, Holder: 3, Mode: api.Shared, Count: 1})
}

// A ledger keeps nothing of objects that are not lent any more.
func TestNothingIsKept(t *testing.T) {
	l := mustNew(t)
	for object := range 30 {
		checkLend(t, l, object, 2, api.Shared, api.OK)
		switch object % 3 {
		case 0:
			checkRelease(t, l, object, 2, api.OK)
		case 1:
			l.EndObject(object)
		default:
			checkEndHolder(t, l, 2, 1)
		}
	}
	if len(l.lent) != 0 {
		t.Errorf("got %v", l.lent)
	}
}
