package generation

import (
	"math"
	"math/rand"
	"slices"
	"testing"

	"pluginhost/api"
)

// pair is a slot and a generation of it.
type pair struct{ slot, gen int }

// model does what the document says, with a list of the free slots and maps of what happened so far.
type model struct {
	n, first int
	free     []int
	last     map[int]int // the last generation of each slot that was live
	live     map[int]bool
	retired  map[int]bool
	issued   map[pair]bool
}

func newModel(n, first int) *model {
	m := &model{n: n, first: first, last: map[int]int{}, live: map[int]bool{}, retired: map[int]bool{}, issued: map[pair]bool{}}
	for i := range n {
		m.free = append(m.free, i)
	}
	return m
}

func (m *model) issue(draw uint64) (int, int, api.Errno) {
	if len(m.live)+len(m.retired) == m.n {
		return 0, 0, api.ErrSlots
	}
	i, last := draw%uint64(len(m.free)), len(m.free)-1
	slot := m.free[i]
	m.free[i] = m.free[last]
	m.free = m.free[:last]
	gen, again := m.last[slot]
	if again {
		gen++
	} else {
		gen = m.first
	}
	m.last[slot], m.live[slot] = gen, true
	return slot, gen, api.OK
}

func (m *model) end(slot int) api.Errno {
	if !m.live[slot] {
		return api.ErrAbsent
	}
	delete(m.live, slot)
	if m.last[slot] == api.MaxGen {
		m.retired[slot] = true
	} else {
		m.free = append(m.free, slot)
	}
	return api.OK
}

// draws returns numbers around 0, and at the bounds of signed and unsigned integers.
func draws() []uint64 {
	return []uint64{
		0, 1, 2, 3, 4, 5, 6, 7, 8, 255, 256, api.MaxSlots - 1, api.MaxSlots, api.MaxSlots + 1,
		math.MaxInt32, math.MaxInt32 + 1, math.MaxUint32, math.MaxUint32 + 1, math.MaxUint32 + 2,
		math.MaxInt64 - 1, math.MaxInt64, math.MaxInt64 + 1, math.MaxInt64 + 2, math.MaxUint64 - 2, math.MaxUint64 - 1, math.MaxUint64,
	}
}

// noSlots returns numbers that are no slots if there are n of them, among them some whose low bits are those of a slot.
func noSlots(n int) []int {
	return []int{
		-1, -2, -n, -n - 1, n, n + 1, 2 * n, api.MaxSlots, api.MaxSlots + 1, api.MaxSlot, api.MaxSlot + 1,
		1 << 31, 1 << 32, 1<<32 + 1, 1 << 40, 1<<62 + 1, -1 << 32, math.MaxInt32, math.MinInt32, math.MaxInt, math.MinInt, math.MinInt + 1,
	}
}

// ascending returns the numbers from 0 to n - 1.
func ascending(n int) []int {
	var list []int
	for i := range n {
		list = append(list, i)
	}
	return list
}

func mustNew(t *testing.T, n, first int) *Slots {
	t.Helper()
	s, e := New(n, first)
	if s == nil || e != api.OK {
		t.Fatalf("New of %d and %d: got %v and %d", n, first, s, e)
	}
	return s
}

func checkIssue(t *testing.T, s *Slots, draw uint64, slot, gen int, e api.Errno) {
	t.Helper()
	if gotSlot, gotGen, gotE := s.Issue(draw); gotSlot != slot || gotGen != gen || gotE != e {
		t.Errorf("Issue of %d: got %d, %d and %d, want %d, %d and %d", draw, gotSlot, gotGen, gotE, slot, gen, e)
	}
}

func checkEnd(t *testing.T, s *Slots, slot int, e api.Errno) {
	t.Helper()
	if got := s.End(slot); got != e {
		t.Errorf("End of %d: got %d, want %d", slot, got, e)
	}
}

func checkLive(t *testing.T, s *Slots, slot, gen int, live bool) {
	t.Helper()
	if gotGen, gotLive := s.Live(slot); gotGen != gen || gotLive != live {
		t.Errorf("Live of %d: got %d and %v, want %d and %v", slot, gotGen, gotLive, gen, live)
	}
}

func checkPool(t *testing.T, s *Slots, want ...int) {
	t.Helper()
	if got := s.Pool(); !slices.Equal(got, want) {
		t.Errorf("Pool: got %v, want %v", got, want)
	}
}

func checkCounts(t *testing.T, s *Slots, size, retired int) {
	t.Helper()
	if s.Size() != size || s.Retired() != retired {
		t.Errorf("got the size %d and %d retired slots, want %d and %d", s.Size(), s.Retired(), size, retired)
	}
}

// checkState compares all that can be seen of s with the model.
func (m *model) checkState(t *testing.T, s *Slots) {
	t.Helper()
	checkCounts(t, s, m.n, len(m.retired))
	checkPool(t, s, m.free...)
	for i := range m.n {
		if m.live[i] {
			checkLive(t, s, i, m.last[i], true)
		} else {
			checkLive(t, s, i, 0, false)
		}
	}
	for _, i := range []int{-1, m.n, m.n + 1, math.MinInt, math.MaxInt} {
		checkLive(t, s, i, 0, false)
	}
}

// checkIssue compares a call of Issue, and checks that no pair is issued twice and that there is an error only where all slots are live or retired.
func (m *model) checkIssue(t *testing.T, s *Slots, draw uint64) {
	t.Helper()
	taken := len(m.live) + len(m.retired)
	wantSlot, wantGen, wantE := m.issue(draw)
	slot, gen, e := s.Issue(draw)
	if slot != wantSlot || gen != wantGen || e != wantE {
		t.Errorf("Issue of %d: got %d, %d and %d, want %d, %d and %d", draw, slot, gen, e, wantSlot, wantGen, wantE)
	}
	if (e == api.ErrSlots) != (taken == m.n) {
		t.Errorf("Issue of %d: got %d, where %d of %d slots are live or retired", draw, e, taken, m.n)
	}
	if e != api.OK {
		return
	}
	if m.issued[pair{slot, gen}] {
		t.Errorf("Issue of %d: got %d and %d twice", draw, slot, gen)
	}
	m.issued[pair{slot, gen}] = true
}

func (m *model) checkEnd(t *testing.T, s *Slots, slot int) {
	t.Helper()
	checkEnd(t, s, slot, m.end(slot))
}

// The example of the document.
func TestExample(t *testing.T) {
	s := mustNew(t, 1, api.MaxGen)
	checkIssue(t, s, 0, 0, api.MaxGen, api.OK)
	checkEnd(t, s, 0, api.OK)
	checkIssue(t, s, 0, 0, 0, api.ErrSlots)
	checkCounts(t, s, 1, 1)
}

// P12.1: all slots are free at first, and the pool contains them in ascending order, for all numbers of slots.
func TestNew(t *testing.T) {
	for n := range 70 {
		newModel(n, 1).checkState(t, mustNew(t, n, 1))
	}
	for n := 0; n <= api.MaxSlots; n += 64 {
		s := mustNew(t, n, api.MaxGen)
		checkPool(t, s, ascending(n)...)
		checkCounts(t, s, n, 0)
	}
}

// P12.1: all first generations from 1 to MaxGen are allowed, and each slot has that one when it is live for the first time.
func TestFirstGeneration(t *testing.T) {
	for _, first := range []int{1, 2, 3, 255, 1<<24 - 1, 1 << 24, math.MaxInt32, math.MaxInt32 + 1, api.MaxGen - 2, api.MaxGen - 1, api.MaxGen} {
		s := mustNew(t, 4, first)
		checkIssue(t, s, 0, 0, first, api.OK)
		checkPool(t, s, 3, 1, 2)
		checkIssue(t, s, 1, 1, first, api.OK)
		checkPool(t, s, 3, 2)
		checkIssue(t, s, 2, 3, first, api.OK)
		checkPool(t, s, 2)
		checkIssue(t, s, 5, 2, first, api.OK)
		checkPool(t, s)
		for slot := range 4 {
			checkLive(t, s, slot, first, true)
		}
	}
}

// P12.1: numbers of slots and first generations out of range are refused, each of them alone and both together.
func TestNewRefuses(t *testing.T) {
	wrongN := []int{-1, -2, api.MaxSlots + 1, api.MaxSlots + 2, api.MaxSlot, 1 << 32, 1<<32 + 1, -1 << 32, math.MinInt, math.MaxInt}
	wrongFirst := []int{0, -1, -2, api.MaxGen + 1, api.MaxGen + 2, 1<<33 + 1, -1 << 32, 1 - 1<<32, math.MinInt, math.MaxInt}
	refuses := func(n, first int) {
		if s, e := New(n, first); s != nil || e != api.ErrArg {
			t.Errorf("New of %d and %d: got %v and %d", n, first, s, e)
		}
	}
	for _, n := range wrongN {
		for _, first := range append(wrongFirst, 1, 7, api.MaxGen) {
			refuses(n, first)
		}
	}
	for _, first := range wrongFirst {
		for _, n := range []int{0, 1, 7, api.MaxSlots} {
			refuses(n, first)
		}
	}
}

// P12.1: a nil or zero Slots behaves like one without slots.
func TestNoSlots(t *testing.T) {
	for _, s := range []*Slots{nil, {}, new(Slots), mustNew(t, 0, 1), mustNew(t, 0, api.MaxGen)} {
		for _, draw := range draws() {
			checkIssue(t, s, draw, 0, 0, api.ErrSlots)
		}
		for _, slot := range append(noSlots(0), 0, 1) {
			checkEnd(t, s, slot, api.ErrAbsent)
			checkLive(t, s, slot, 0, false)
		}
		checkCounts(t, s, 0, 0)
		checkPool(t, s)
	}
}

// P12.2: for all numbers of slots up to 12 and all draws up to three times as many, and great ones, Issue takes the free slot that the pool gives for the draw.
func TestIssueByDraws(t *testing.T) {
	for n := 1; n <= 12; n++ {
		list := draws()
		for draw := range 3 * n {
			list = append(list, uint64(draw))
		}
		for _, draw := range list {
			s, m := mustNew(t, n, 9), newModel(n, 9)
			for range n {
				m.checkIssue(t, s, draw)
				m.checkState(t, s)
			}
			m.checkIssue(t, s, draw)
			m.checkState(t, s)
		}
	}
}

// P12.2: the generations of a slot grow by one each time, whatever happens to the other slots meanwhile.
func TestGenerationsGrow(t *testing.T) {
	for _, first := range []int{1, 255, math.MaxInt32 - 3, api.MaxGen - 20} {
		s := mustNew(t, 2, first)
		checkIssue(t, s, 0, 0, first, api.OK)
		for i := range 20 {
			checkIssue(t, s, 3, 1, first+i, api.OK)
			checkLive(t, s, 0, first, true)
			checkLive(t, s, 1, first+i, true)
			checkEnd(t, s, 1, api.OK)
		}
		checkEnd(t, s, 0, api.OK)
		checkPool(t, s, 1, 0)
		checkIssue(t, s, 1, 0, first+1, api.OK)
		checkIssue(t, s, 1, 1, first+20, api.OK)
	}
}

// P12.2, P12.3: a slot that ends is put at the end of the pool, until it ends with its last generation, with which it can be live like with any other one.
func TestLastGenerations(t *testing.T) {
	s := mustNew(t, 3, api.MaxGen-2)
	for i, draw := range []uint64{0, 2} {
		checkIssue(t, s, draw, 0, api.MaxGen-2+i, api.OK)
		checkPool(t, s, 2, 1)
		checkEnd(t, s, 0, api.OK)
		checkPool(t, s, 2, 1, 0)
		checkCounts(t, s, 3, 0)
		checkLive(t, s, 0, 0, false)
	}
	checkIssue(t, s, 2, 0, api.MaxGen, api.OK)
	checkLive(t, s, 0, api.MaxGen, true)
	checkCounts(t, s, 3, 0)
	checkEnd(t, s, 0, api.OK)
	checkLive(t, s, 0, 0, false)
	checkCounts(t, s, 3, 1)
	checkPool(t, s, 2, 1)
	checkIssue(t, s, 0, 2, api.MaxGen-2, api.OK)
	checkEnd(t, s, 2, api.OK)
	checkPool(t, s, 1, 2)
	checkCounts(t, s, 3, 1)
}

// P12.3: a retired slot is never live again, and the others are not concerned.
func TestRetiredForGood(t *testing.T) {
	s := mustNew(t, 4, api.MaxGen)
	for range 4 {
		s.Issue(0)
	}
	for i, slot := range []int{2, 0, 3, 1} {
		checkCounts(t, s, 4, i)
		checkEnd(t, s, slot, api.OK)
		checkCounts(t, s, 4, i+1)
		checkEnd(t, s, slot, api.ErrAbsent)
		checkLive(t, s, slot, 0, false)
		checkPool(t, s)
		for _, draw := range draws() {
			checkIssue(t, s, draw, 0, 0, api.ErrSlots)
		}
		for _, other := range []int{2, 0, 3, 1}[i+1:] {
			checkLive(t, s, other, api.MaxGen, true)
		}
	}
	checkCounts(t, s, 4, 4)
}

// P12.3, P12.4 and general rule 5: slots that are not live, and numbers that are no slots, cannot be ended, and nothing changes.
func TestEndOfWhatIsNotLive(t *testing.T) {
	for _, first := range []int{1, api.MaxGen - 1, api.MaxGen} {
		for n := range 6 {
			s, m := mustNew(t, n, first), newModel(n, first)
			refuse := func(list []int) {
				for _, slot := range list {
					checkEnd(t, s, slot, api.ErrAbsent)
					checkLive(t, s, slot, 0, false)
					m.checkState(t, s)
				}
			}
			refuse(append(noSlots(n), ascending(n)...))
			for range n {
				m.checkIssue(t, s, 1)
				refuse(append(noSlots(n), m.free...))
			}
			for slot := range n {
				m.checkEnd(t, s, slot)
				refuse(append(noSlots(n), ascending(slot+1)...))
			}
		}
	}
}

// P12.5 and general rule 5: an Issue that is refused changes nothing, also if it is repeated, and a slot that ends can then be issued.
func TestIssueRefused(t *testing.T) {
	s, m := mustNew(t, 3, 5), newModel(3, 5)
	for range 3 {
		m.checkIssue(t, s, 0)
	}
	for _, slot := range []int{1, 1, 0, 2, 0} {
		for _, draw := range draws() {
			m.checkIssue(t, s, draw)
			m.checkState(t, s)
		}
		m.checkEnd(t, s, slot)
		m.checkIssue(t, s, math.MaxUint64)
		m.checkState(t, s)
	}
	checkLive(t, s, 0, 7, true)
	checkLive(t, s, 1, 7, true)
	checkLive(t, s, 2, 6, true)
}

// perform does one of the calls that eachSequence tries: Issue for 0 to n - 1, and End of -1 to n for the others.
func (m *model) perform(t *testing.T, s *Slots, call int) {
	t.Helper()
	if call < m.n {
		m.checkIssue(t, s, uint64(call))
	} else {
		m.checkEnd(t, s, call-m.n-1)
	}
}

// eachSequence calls f with all sequences of length calls, which are numbers below kinds.
func eachSequence(kinds, length int, f func(calls []int)) {
	calls := make([]int, length)
	var fill func(i int)
	fill = func(i int) {
		if i == length {
			f(calls)
			return
		}
		for calls[i] = 0; calls[i] < kinds; calls[i]++ {
			fill(i + 1)
		}
	}
	fill(0)
}

// P12.2 to P12.5: all sequences of a few calls on a few slots, with first generations that let no, some or all slots retire.
func TestAllSequences(t *testing.T) {
	for n, length := range []int{4, 7, 6, 5} {
		for _, first := range []int{1, api.MaxGen - 1, api.MaxGen} {
			eachSequence(2*n+2, length, func(calls []int) {
				s, m := mustNew(t, n, first), newModel(n, first)
				for _, call := range calls {
					m.perform(t, s, call)
				}
				m.checkState(t, s)
				if t.Failed() {
					t.Fatalf("%d slots from %d on, calls %v", n, first, calls)
				}
			})
		}
	}
}

// P12.2 to P12.5: long sequences of calls, with draws of all sizes.
func TestLongSequences(t *testing.T) {
	for seed := range int64(60) {
		random := rand.New(rand.NewSource(seed))
		n := 1 + random.Intn(20)
		first := []int{1, api.MaxGen - 40, api.MaxGen - 3, api.MaxGen}[seed%4]
		s, m := mustNew(t, n, first), newModel(n, first)
		for range 1500 {
			// A third of the seeds each keep few, about half, and most of the slots live.
			if random.Intn(6) < 2+int(seed%3) {
				m.checkIssue(t, s, random.Uint64()>>random.Intn(64))
			} else {
				m.checkEnd(t, s, random.Intn(n+2)-1)
			}
			m.checkState(t, s)
		}
		if t.Failed() {
			t.Fatalf("seed %d", seed)
		}
	}
}

// P12.1, P12.2, P12.5: with the greatest number of slots, every slot is issued once, ended, and issued once again or retired.
func TestMostSlots(t *testing.T) {
	s := mustNew(t, api.MaxSlots, api.MaxGen-1)
	for round := range 2 {
		seen := map[int]bool{}
		for i := range uint64(api.MaxSlots) {
			slot, gen, e := s.Issue(i * i * i)
			if seen[slot] || slot < 0 || slot >= api.MaxSlots || gen != api.MaxGen-1+round || e != api.OK {
				t.Fatalf("Issue: got %d, %d and %d", slot, gen, e)
			}
			seen[slot] = true
		}
		checkIssue(t, s, 1, 0, 0, api.ErrSlots)
		checkCounts(t, s, api.MaxSlots, 0)
		for slot := range api.MaxSlots {
			checkEnd(t, s, slot, api.OK)
		}
		checkPool(t, s, ascending(api.MaxSlots*(1-round))...)
	}
	checkIssue(t, s, 1, 0, 0, api.ErrSlots)
	checkCounts(t, s, api.MaxSlots, api.MaxSlots)
}

// P12.4 and general rule 3: Pool returns new memory each time.
func TestPoolIsNew(t *testing.T) {
	s := mustNew(t, 4, 1)
	s.Issue(1)
	list, other := s.Pool(), s.Pool()
	for i := range list {
		list[i] = -1
	}
	list = append(list, -1)
	if !slices.Equal(other, []int{0, 3, 2}) {
		t.Errorf("an earlier result: got %v", other)
	}
	checkPool(t, s, 0, 3, 2)
	s.End(1)
	s.Issue(0)
	if !slices.Equal(list, []int{-1, -1, -1, -1}) || !slices.Equal(other, []int{0, 3, 2}) {
		t.Errorf("results after further calls: got %v and %v", list, other)
	}
	checkPool(t, s, 1, 3, 2)
}

// General rule 6: slots that were made alike are independent.
func TestSlotsAreIndependent(t *testing.T) {
	one, other := mustNew(t, 2, api.MaxGen), mustNew(t, 2, api.MaxGen)
	checkIssue(t, one, 1, 1, api.MaxGen, api.OK)
	checkEnd(t, one, 1, api.OK)
	newModel(2, api.MaxGen).checkState(t, other)
	checkIssue(t, other, 0, 0, api.MaxGen, api.OK)
	checkPool(t, one, 0)
	checkPool(t, other, 1)
	checkLive(t, one, 0, 0, false)
	checkCounts(t, one, 2, 1)
	checkCounts(t, other, 2, 0)
}
