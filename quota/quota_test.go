package quota

import (
	"iter"
	"math"
	"math/big"
	"math/rand"
	"slices"
	"testing"

	"pluginhost/api"
)

// triple is bytes, objects and borrows as numbers that cannot wrap around.
type triple [3]*big.Int

// model does what the document says, with such numbers.
type model struct {
	limit triple
	has   map[int]triple
}

func newModel(limit api.Quota) *model { return &model{limit: exact(limit), has: map[int]triple{}} }

// quota returns a quota with these numbers.
func quota(bytes, objects, borrows int) api.Quota {
	return api.Quota{Bytes: bytes, Objects: objects, Borrows: borrows}
}

// only returns a quota with the number x at the position i, and others elsewhere.
func only(i, x, others int) api.Quota {
	numbers := [3]int{others, others, others}
	numbers[i] = x
	return quota(numbers[0], numbers[1], numbers[2])
}

func exact(q api.Quota) triple {
	return triple{big.NewInt(int64(q.Bytes)), big.NewInt(int64(q.Objects)), big.NewInt(int64(q.Borrows))}
}

func (m *model) get(plugin int) api.Quota {
	has, known := m.has[plugin]
	if !known {
		return api.Quota{}
	}
	return quota(int(has[0].Int64()), int(has[1].Int64()), int(has[2].Int64()))
}

// sums returns what a plugin would have with q, or without it if sign is -1.
func (m *model) sums(plugin int, q api.Quota, sign int64) triple {
	has, more := exact(m.get(plugin)), exact(q)
	for i := range has {
		more[i].Mul(more[i], big.NewInt(sign))
		has[i].Add(has[i], more[i])
	}
	return has
}

func (m *model) fits(plugin int, q api.Quota) api.Errno {
	for _, x := range exact(q) {
		if x.Sign() < 0 {
			return api.ErrArg
		}
	}
	for i, sum := range m.sums(plugin, q, 1) {
		if sum.Cmp(m.limit[i]) > 0 {
			return api.ErrQuota
		}
	}
	return api.OK
}

func (m *model) add(plugin int, q api.Quota) api.Errno {
	if e := m.fits(plugin, q); e != api.OK {
		return e
	}
	m.has[plugin] = m.sums(plugin, q, 1)
	return api.OK
}

func (m *model) sub(plugin int, q api.Quota) api.Errno {
	rest := m.sums(plugin, q, -1)
	for i, x := range exact(q) {
		if x.Sign() < 0 || rest[i].Sign() < 0 {
			return api.ErrArg
		}
	}
	m.has[plugin] = rest
	return api.OK
}

func checkGet(t *testing.T, m *Meter, plugin int, want api.Quota) {
	t.Helper()
	if got := m.Get(plugin); got != want {
		t.Errorf("Get of %d: got %v, want %v", plugin, got, want)
	}
}

// checkAdd calls Add, and before that Fits, which must return the same and change nothing.
func checkAdd(t *testing.T, m *Meter, plugin int, q api.Quota, want api.Errno) {
	t.Helper()
	before := m.Get(plugin)
	if got := m.Fits(plugin, q); got != want {
		t.Errorf("Fits for %d of %v to %v: got %d, want %d", plugin, q, before, got, want)
	}
	checkGet(t, m, plugin, before)
	if got := m.Add(plugin, q); got != want {
		t.Errorf("Add for %d of %v to %v: got %d, want %d", plugin, q, before, got, want)
	}
}

func checkSub(t *testing.T, m *Meter, plugin int, q api.Quota, want api.Errno) {
	t.Helper()
	before := m.Get(plugin)
	if got := m.Sub(plugin, q); got != want {
		t.Errorf("Sub for %d of %v from %v: got %d, want %d", plugin, q, before, got, want)
	}
}

func mustNew(t *testing.T, limit api.Quota) *Meter {
	t.Helper()
	m := New(limit)
	if m == nil {
		t.Fatalf("New with %v: got nil", limit)
	}
	return m
}

// having returns a meter with this limit in which the plugin 1 has this.
func having(t *testing.T, limit, has api.Quota) *Meter {
	t.Helper()
	m := mustNew(t, limit)
	checkAdd(t, m, 1, has, api.OK)
	checkGet(t, m, 1, has)
	return m
}

// check compares what these plugins have with the model.
func (m *model) check(t *testing.T, meter *Meter, plugins ...int) {
	t.Helper()
	for _, p := range plugins {
		checkGet(t, meter, p, m.get(p))
	}
}

func (m *model) checkAdd(t *testing.T, meter *Meter, plugin int, q api.Quota) {
	t.Helper()
	checkAdd(t, meter, plugin, q, m.add(plugin, q))
}

func (m *model) checkSub(t *testing.T, meter *Meter, plugin int, q api.Quota) {
	t.Helper()
	checkSub(t, meter, plugin, q, m.sub(plugin, q))
}

func (m *model) reset(meter *Meter, plugin int) {
	meter.Reset(plugin)
	delete(m.has, plugin)
}

// anyPlugins returns numbers of plugins, among them some that differ only in their sign or their high bits.
func anyPlugins() []int {
	return []int{math.MinInt, -1 << 32, -64, -2, -1, 0, 1, 2, 64, 65, 255, 257, 1 << 32, 1<<32 + 1, math.MaxInt}
}

// anyNumbers returns numbers around 0, and at the bounds of integers of 8, 32 and 64 bits, in ascending order.
func anyNumbers() []int {
	return []int{math.MinInt, math.MinInt + 1, -1 << 32, -256, -2, -1, 0, 1, 2, 3, 255, 256, 1<<31 - 1, 1 << 31, 1 << 32, 1 << 62, math.MaxInt - 1, math.MaxInt}
}

// negatives returns the numbers below 0 among those of anyNumbers.
func negatives() []int {
	return slices.DeleteFunc(anyNumbers(), func(x int) bool { return x >= 0 })
}

// naturals returns the others.
func naturals() []int {
	return slices.DeleteFunc(anyNumbers(), func(x int) bool { return x < 0 })
}

// small yields all quotas with numbers from least to most.
func small(least, most int) iter.Seq[api.Quota] {
	return func(yield func(api.Quota) bool) {
		for x := least; x <= most; x++ {
			for y := least; y <= most; y++ {
				for z := least; z <= most; z++ {
					if !yield(quota(x, y, z)) {
						return
					}
				}
			}
		}
	}
}

// The example of the document.
func TestExample(t *testing.T) {
	m := mustNew(t, quota(0, 2, 0))
	checkAdd(t, m, 1, quota(0, 1, 0), api.OK)
	checkAdd(t, m, 1, quota(0, 1, 0), api.OK)
	checkAdd(t, m, 1, quota(0, 1, 0), api.ErrQuota)
	checkGet(t, m, 1, quota(0, 2, 0))
}

// P15.1: each of the three numbers is added to its own one.
func TestAdd(t *testing.T) {
	m := mustNew(t, quota(1000, 2000, 3000))
	checkAdd(t, m, 1, quota(1, 20, 300), api.OK)
	checkGet(t, m, 1, quota(1, 20, 300))
	checkAdd(t, m, 1, quota(50, 600, 7), api.OK)
	checkGet(t, m, 1, quota(51, 620, 307))
	checkAdd(t, m, 1, quota(0, 0, 0), api.OK)
	checkGet(t, m, 1, quota(51, 620, 307))
	checkAdd(t, m, 1, quota(949, 1380, 2693), api.OK)
	checkGet(t, m, 1, quota(1000, 2000, 3000))
	checkAdd(t, m, 1, quota(0, 0, 0), api.OK)
}

// P15.1: a sum may be its limit, but not greater, whatever the limit, the steps up to it, and the other numbers are.
func TestAddUpToLimit(t *testing.T) {
	for i := range 3 {
		for _, limit := range naturals() {
			for _, has := range naturals() {
				if has > limit {
					continue
				}
				m := having(t, only(i, limit, 5), only(i, has, 2))
				if limit-has < math.MaxInt {
					checkAdd(t, m, 1, only(i, limit-has+1, 0), api.ErrQuota)
					checkAdd(t, m, 1, only(i, limit-has+1, 3), api.ErrQuota)
				}
				checkGet(t, m, 1, only(i, has, 2))
				checkAdd(t, m, 1, only(i, limit-has, 3), api.OK)
				checkGet(t, m, 1, only(i, limit, 5))
				checkAdd(t, m, 1, only(i, 1, 0), api.ErrQuota)
				checkAdd(t, m, 1, only(i, math.MaxInt, 0), api.ErrQuota)
				checkGet(t, m, 1, only(i, limit, 5))
			}
		}
	}
}

// P15.1: a sum that exceeds int exceeds every limit, also the greatest one.
func TestAddBeyondInt(t *testing.T) {
	for i := range 3 {
		for _, has := range naturals() {
			for _, more := range naturals() {
				m := having(t, quota(math.MaxInt, math.MaxInt, math.MaxInt), only(i, has, 0))
				want, after := api.OK, only(i, has+more, 0)
				if has > math.MaxInt-more {
					want, after = api.ErrQuota, only(i, has, 0)
				}
				checkAdd(t, m, 1, only(i, more, 0), want)
				checkGet(t, m, 1, after)
			}
		}
	}
}

// P15.1: one number that does not fit is enough, and then none of the numbers is added.
func TestAddIsWhole(t *testing.T) {
	for more := range small(0, 4) {
		m := having(t, quota(5, 5, 5), quota(3, 3, 3))
		want, after := api.OK, quota(3+more.Bytes, 3+more.Objects, 3+more.Borrows)
		if max(more.Bytes, more.Objects, more.Borrows) > 2 {
			want, after = api.ErrQuota, quota(3, 3, 3)
		}
		checkAdd(t, m, 1, more, want)
		checkGet(t, m, 1, after)
	}
}

// P15.1: a negative number is refused with ErrArg, also if other numbers exceed their limits or nothing fits at all.
func TestAddRefusesNegatives(t *testing.T) {
	for i := range 3 {
		for _, x := range negatives() {
			for _, others := range anyNumbers() {
				for _, limit := range anyNumbers() {
					m := mustNew(t, quota(limit, limit, limit))
					checkAdd(t, m, 1, only(i, x, others), api.ErrArg)
					checkGet(t, m, 1, quota(0, 0, 0))
				}
				m := having(t, quota(9, 9, 9), quota(3, 4, 5))
				checkAdd(t, m, 1, only(i, x, others), api.ErrArg)
				checkGet(t, m, 1, quota(3, 4, 5))
			}
		}
	}
}

// P15.1: limits are any numbers; 0 is greater than a negative limit, so that nothing can be added, not even nothing.
func TestNegativeLimits(t *testing.T) {
	for i := range 3 {
		for _, limit := range negatives() {
			m := mustNew(t, only(i, limit, 5))
			for _, x := range naturals() {
				checkAdd(t, m, 1, only(i, x, 0), api.ErrQuota)
			}
			checkAdd(t, m, 1, only(i, 0, 1), api.ErrQuota)
			checkGet(t, m, 1, quota(0, 0, 0))
			checkSub(t, m, 1, quota(0, 0, 0), api.OK)
			checkSub(t, m, 1, only(i, 1, 0), api.ErrArg)
			m.Reset(1)
			checkAdd(t, m, 1, quota(0, 0, 0), api.ErrQuota)
		}
	}
}

// P15.2: for what a plugin has and what is subtracted, all small numbers, negative ones among the latter; after an error nothing has changed.
func TestSub(t *testing.T) {
	for has := range small(0, 2) {
		for less := range small(-1, 3) {
			m := having(t, quota(9, 9, 9), has)
			want, after := api.OK, quota(has.Bytes-less.Bytes, has.Objects-less.Objects, has.Borrows-less.Borrows)
			fewest := min(less.Bytes, less.Objects, less.Borrows, after.Bytes, after.Objects, after.Borrows)
			if fewest < 0 {
				want, after = api.ErrArg, has
			}
			checkSub(t, m, 1, less, want)
			checkGet(t, m, 1, after)
		}
	}
}

// P15.2: great numbers, from nothing to all that a plugin has and more.
func TestSubGreat(t *testing.T) {
	for i := range 3 {
		for _, has := range naturals() {
			for _, less := range anyNumbers() {
				m := having(t, quota(math.MaxInt, math.MaxInt, math.MaxInt), only(i, has, 7))
				want, after := api.OK, only(i, has-less, 6)
				if less < 0 || less > has {
					want, after = api.ErrArg, only(i, has, 7)
				}
				checkSub(t, m, 1, only(i, less, 1), want)
				checkGet(t, m, 1, after)
			}
		}
	}
}

// P15.2: a plugin that has nothing, from the beginning or again, can give nothing but nothing.
func TestSubFromNothing(t *testing.T) {
	m := mustNew(t, quota(9, 9, 9))
	for range 3 {
		for _, p := range anyPlugins() {
			checkSub(t, m, p, quota(0, 0, 0), api.OK)
			for i := range 3 {
				checkSub(t, m, p, only(i, 1, 0), api.ErrArg)
				checkSub(t, m, p, only(i, math.MaxInt, 0), api.ErrArg)
			}
			checkGet(t, m, p, quota(0, 0, 0))
			checkAdd(t, m, p, quota(1, 2, 3), api.OK)
			checkSub(t, m, p, quota(1, 2, 3), api.OK)
			checkGet(t, m, p, quota(0, 0, 0))
		}
	}
}

// P15.3 and P15.4: plugins are any numbers, each of them has the same limits and its own things, and nothing at first.
func TestPluginsAreIndependent(t *testing.T) {
	m := mustNew(t, quota(100, 200, 300))
	for i, p := range anyPlugins() {
		checkGet(t, m, p, quota(0, 0, 0))
		checkAdd(t, m, p, quota(100-i, 200-i, 300-i), api.OK)
		checkAdd(t, m, p, quota(i+1, 0, 0), api.ErrQuota)
	}
	for i, p := range anyPlugins() {
		checkGet(t, m, p, quota(100-i, 200-i, 300-i))
		checkAdd(t, m, p, quota(i, i, i), api.OK)
	}
	for i, p := range anyPlugins() {
		checkGet(t, m, p, quota(100, 200, 300))
		checkSub(t, m, p, quota(i, 0, 2*i), api.OK)
		checkSub(t, m, p, quota(101, 0, 0), api.ErrArg)
	}
	for i, p := range anyPlugins() {
		checkGet(t, m, p, quota(100-i, 200, 300-2*i))
	}
}

// P15.3: Reset takes everything from one plugin, so that it can have all of its quota again, and nothing from others.
func TestReset(t *testing.T) {
	for _, gone := range anyPlugins() {
		m := mustNew(t, quota(100, 200, 300))
		m.Reset(gone)
		checkGet(t, m, gone, quota(0, 0, 0))
		for _, p := range anyPlugins() {
			checkAdd(t, m, p, quota(100, 20, 3), api.OK)
		}
		for range 2 {
			m.Reset(gone)
			m.Reset(77)
			for _, p := range anyPlugins() {
				want := quota(100, 20, 3)
				if p == gone {
					want = quota(0, 0, 0)
				}
				checkGet(t, m, p, want)
			}
		}
		checkSub(t, m, gone, quota(0, 0, 1), api.ErrArg)
		checkAdd(t, m, gone, quota(101, 0, 0), api.ErrQuota)
		checkAdd(t, m, gone, quota(100, 200, 300), api.OK)
		checkGet(t, m, gone, quota(100, 200, 300))
	}
}

// P15.3: the limits of a zero Meter are 0.
func TestZeroMeter(t *testing.T) {
	m := &Meter{}
	for _, p := range anyPlugins() {
		for range 2 {
			checkGet(t, m, p, quota(0, 0, 0))
			checkAdd(t, m, p, quota(0, 0, 0), api.OK)
			checkSub(t, m, p, quota(0, 0, 0), api.OK)
			for i := range 3 {
				for _, x := range naturals() {
					checkAdd(t, m, p, only(i, max(x, 1), 0), api.ErrQuota)
					checkSub(t, m, p, only(i, max(x, 1), 0), api.ErrArg)
				}
				for _, x := range negatives() {
					checkAdd(t, m, p, only(i, x, 1), api.ErrArg)
					checkSub(t, m, p, only(i, x, 0), api.ErrArg)
				}
			}
			checkGet(t, m, p, quota(0, 0, 0))
			m.Reset(p)
		}
	}
}

// P15.1 to P15.3: a nil Meter refuses everything with ErrArg, and nobody has anything in it.
func TestNilMeter(t *testing.T) {
	var m *Meter
	for _, p := range anyPlugins() {
		for _, x := range anyNumbers() {
			for i := range 3 {
				checkAdd(t, m, p, only(i, x, 0), api.ErrArg)
				checkSub(t, m, p, only(i, x, 0), api.ErrArg)
			}
			checkGet(t, m, p, quota(0, 0, 0))
		}
		m.Reset(p)
		checkGet(t, m, p, quota(0, 0, 0))
	}
}

// P15.4: Add succeeds exactly if no sum exceeds its limit, for all small limits, sums and numbers to add.
func TestAddExactly(t *testing.T) {
	for limit := range small(-1, 2) {
		for has := range small(0, 2) {
			for more := range small(-1, 3) {
				meter, m := mustNew(t, limit), newModel(limit)
				m.checkAdd(t, meter, 1, has)
				m.checkAdd(t, meter, 1, more)
				m.check(t, meter, 0, 1)
				if t.Failed() {
					t.Fatalf("the limit %v, first %v, then %v", limit, has, more)
				}
			}
		}
	}
}

// P15.4: Add and Sub of the same numbers cancel out.
func TestCancel(t *testing.T) {
	for _, has := range naturals() {
		for _, x := range naturals() {
			for i := range 3 {
				before, q := only(i, has, 4), only(i, x, 5)
				m := having(t, quota(math.MaxInt, math.MaxInt, math.MaxInt), before)
				if m.Add(1, q) == api.OK {
					checkSub(t, m, 1, q, api.OK)
				}
				checkGet(t, m, 1, before)
				q = only(i, x, 2)
				if m.Sub(1, q) == api.OK {
					checkAdd(t, m, 1, q, api.OK)
				}
				checkGet(t, m, 1, before)
			}
		}
	}
}

// perform does one of the 22 calls that TestAllSequences tries, with the plugins 1 and 2.
func (m *model) perform(t *testing.T, meter *Meter, call int) {
	t.Helper()
	q := []api.Quota{quota(1, 0, 0), quota(0, 1, 0), quota(0, 0, 2), quota(1, 1, 1), quota(2, -1, 0)}[call/4%5]
	switch plugin := 1 + call%2; {
	case call >= 20:
		m.reset(meter, plugin)
	case call/2%2 == 0:
		m.checkAdd(t, meter, plugin, q)
	default:
		m.checkSub(t, meter, plugin, q)
	}
}

// P15.1 to P15.4: all sequences of four calls, with two plugins.
func TestAllSequences(t *testing.T) {
	limit := quota(3, 2, 4)
	for number := range 22 * 22 * 22 * 22 {
		meter, m := New(limit), newModel(limit)
		for calls := number + 22*22*22*22; calls > 1; calls /= 22 {
			m.perform(t, meter, calls%22)
		}
		m.check(t, meter, 1, 2)
		if t.Failed() {
			t.Fatalf("number %d", number)
		}
	}
}

// P15.1 to P15.4: long sequences of calls with any limits, plugins and numbers.
func TestLongSequences(t *testing.T) {
	for seed := range int64(60) {
		random := rand.New(rand.NewSource(seed))
		choose := func(list []int) int { return list[random.Intn(len(list))] }
		numbers := [][]int{anyNumbers(), naturals(), {0, 0, 1, 2, 3, 4, 5}}[seed%3]
		triples := func() api.Quota { return quota(choose(numbers), choose(numbers), choose(numbers)) }
		limits := [][]int{anyNumbers(), {math.MaxInt, math.MaxInt - 1}, {50, 60, 1 << 33}}[seed/3%3]
		limit := quota(choose(limits), choose(limits), choose(limits))
		meter, m := mustNew(t, limit), newModel(limit)
		plugins := anyPlugins()[seed%8 : 10+seed%6]
		for range 400 {
			p := choose(plugins)
			switch random.Intn(20) {
			case 0:
				m.reset(meter, p)
			case 1, 2, 3, 4, 5, 6, 7:
				m.checkSub(t, meter, p, triples())
			default:
				m.checkAdd(t, meter, p, triples())
			}
			m.check(t, meter, plugins...)
		}
		if t.Failed() {
			t.Fatalf("seed %d", seed)
		}
	}
}

// General rule 6: meters that were made alike are independent.
func TestMetersAreIndependent(t *testing.T) {
	one, other := mustNew(t, quota(5, 5, 5)), mustNew(t, quota(5, 5, 5))
	checkAdd(t, one, 1, quota(3, 3, 3), api.OK)
	checkGet(t, other, 1, quota(0, 0, 0))
	checkAdd(t, other, 1, quota(5, 5, 5), api.OK)
	one.Reset(1)
	checkGet(t, one, 1, quota(0, 0, 0))
	checkGet(t, other, 1, quota(5, 5, 5))
}

// A meter keeps nothing of plugins that have nothing.
func TestNothingIsKept(t *testing.T) {
	m := mustNew(t, quota(5, 5, 5))
	for p := range 30 {
		checkAdd(t, m, p, quota(0, 0, 0), api.OK)
		checkAdd(t, m, p, quota(6, 0, 0), api.ErrQuota)
		checkSub(t, m, p, quota(0, 0, 0), api.OK)
		checkAdd(t, m, p, quota(1, 2, 3), api.OK)
		if p%2 == 0 {
			m.Reset(p)
		} else {
			checkSub(t, m, p, quota(1, 2, 3), api.OK)
		}
	}
	if len(m.has) != 0 {
		t.Errorf("got %v", m.has)
	}
}
