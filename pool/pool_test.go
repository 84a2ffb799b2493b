package pool

import (
	"math"
	"math/big"
	"math/rand"
	"slices"
	"testing"
)

// numbered returns n items, all of which are different and none of which is the zero value.
func numbered(n int) []int {
	var list []int
	for i := range n {
		list = append(list, 100+i)
	}
	return list
}

// draws returns numbers around 0, around some lengths, and at the bounds of signed and unsigned integers.
func draws() []uint64 {
	return []uint64{
		0, 1, 2, 3, 4, 5, 6, 7, 8, 99, 100, 255, 256,
		math.MaxInt32, math.MaxInt32 + 1, math.MaxUint32, math.MaxUint32 + 1, math.MaxUint32 + 2,
		math.MaxInt64 - 1, math.MaxInt64, math.MaxInt64 + 1, math.MaxInt64 + 2, math.MaxUint64 - 2, math.MaxUint64 - 1, math.MaxUint64,
	}
}

// remainder returns draw mod n, computed with numbers that cannot wrap around.
func remainder(draw uint64, n int) int {
	return int(new(big.Int).Mod(new(big.Int).SetUint64(draw), big.NewInt(int64(n))).Int64())
}

// after returns the items that remain when the one with the index i is taken from list, which is not changed.
func after(list []int, i int) []int {
	last := len(list) - 1
	if i == last {
		return slices.Clone(list[:last])
	}
	return slices.Concat(list[:i], list[last:], list[i+1:last])
}

func checkItems[T comparable](t *testing.T, p *Pool[T], want ...T) {
	t.Helper()
	if got := p.Len(); got != len(want) {
		t.Errorf("Len: got %d, want %d", got, len(want))
	}
	if got := slices.Collect(p.All()); !slices.Equal(got, want) {
		t.Errorf("All: got %v, want %v", got, want)
	}
}

func checkTake[T comparable](t *testing.T, p *Pool[T], draw uint64, want T) {
	t.Helper()
	if got, ok := p.Take(draw); got != want || !ok {
		t.Errorf("Take of %d: got %v and %v, want %v and true", draw, got, ok, want)
	}
}

// checkEmpty checks that a pool is empty by all ways to see it, and stays so.
func checkEmpty[T comparable](t *testing.T, p *Pool[T]) {
	t.Helper()
	var zero T
	for _, draw := range draws() {
		if got, ok := p.Take(draw); got != zero || ok {
			t.Errorf("Take of %d from an empty pool: got %v and %v", draw, got, ok)
		}
		checkItems(t, p)
	}
}

// The example of the document.
func TestExample(t *testing.T) {
	p := New("a", "b", "c")
	checkTake(t, p, 4, "b")
	checkItems(t, p, "a", "c")
}

// P11.1: New keeps the items and their order, also equal ones and zero values, and does not return nil.
func TestNew(t *testing.T) {
	for n := range 50 {
		p := New(numbered(n)...)
		if p == nil {
			t.Fatalf("New with %d items: got nil", n)
		}
		checkItems(t, p, numbered(n)...)
	}
	checkItems(t, New(3, 1, 2, 3, 0, 0, -1), 3, 1, 2, 3, 0, 0, -1)
	checkItems(t, New("", "x", ""), "", "x", "")
	checkItems(t, New([]string{}...))
	checkItems(t, New([]string(nil)...))
}

// P11.1: Put appends, to a pool of any length, also an item that the pool already contains.
func TestPut(t *testing.T) {
	for n := range 10 {
		p, want := New(numbered(n)...), numbered(n)
		for i := range 40 {
			x := 100 + i%15
			p.Put(x)
			want = append(want, x)
			checkItems(t, p, want...)
		}
	}
}

// P11.2: for all lengths up to 20 and all draws up to three times the length, Take returns the item with the index draw mod Len, and the last item takes its place.
func TestTake(t *testing.T) {
	for n := 1; n <= 20; n++ {
		for draw := range 3 * n {
			list := numbered(n)
			p := New(list...)
			checkTake(t, p, uint64(draw), list[draw%n])
			checkItems(t, p, after(list, draw%n)...)
		}
	}
}

// P11.2: the draw is a number without a sign, and all of its 64 bits count.
func TestTakeByGreatDraws(t *testing.T) {
	for n := 1; n <= 20; n++ {
		for _, draw := range draws() {
			list := numbered(n)
			p, i := New(list...), remainder(draw, n)
			checkTake(t, p, draw, list[i])
			checkItems(t, p, after(list, i)...)
		}
	}
}

// P11.2: nothing is taken from an empty pool, whether it was empty from the beginning or became so, and items can be put into it.
func TestTakeFromNothing(t *testing.T) {
	p := New[int]()
	for n := range 4 {
		checkEmpty(t, p)
		for _, x := range numbered(n) {
			p.Put(x)
		}
		checkItems(t, p, numbered(n)...)
		for range n {
			p.Take(1)
		}
	}
	checkEmpty(t, p)
}

// P11.3: a zero Pool is empty, and can be used like a new one.
func TestZero(t *testing.T) {
	var p Pool[string]
	checkEmpty(t, &p)
	p.Put("a")
	p.Put("b")
	checkItems(t, &p, "a", "b")
	checkTake(t, &p, 2, "a")
	checkItems(t, &p, "b")
	checkTake(t, &p, 7, "b")
	checkEmpty(t, &p)
}

// P11.3: a nil Pool is empty, and Put has no effect on it, also on an iterator that exists.
func TestNil(t *testing.T) {
	var p *Pool[int]
	seq := p.All()
	for range 3 {
		checkEmpty(t, p)
		p.Put(5)
		for x := range seq {
			t.Errorf("All of a nil pool: got %d", x)
		}
	}
	checkEmpty(t, p)
}

// eachOrder calls f with all ways to choose n draws, the first one below n, the next one below n - 1, and so on to the last one below 1.
func eachOrder(n int, f func(list []int)) {
	var extend func(list []int)
	extend = func(list []int) {
		if len(list) == n {
			f(list)
			return
		}
		for draw := range n - len(list) {
			extend(append(list, draw))
		}
	}
	extend(nil)
}

// P11.4: whatever the draws, each of n items is taken once by n calls of Take, and the pool is then empty. Different draws give different orders.
func TestAllDraws(t *testing.T) {
	for n := range 7 {
		orders := map[[6]int]bool{}
		eachOrder(n, func(list []int) {
			p := New(numbered(n)...)
			var order [6]int
			for i, draw := range list {
				x, ok := p.Take(uint64(draw))
				if !ok || slices.Contains(order[:i], x) || !slices.Contains(numbered(n), x) {
					t.Errorf("draws %v: got %d and %v after %v", list, x, ok, order[:i])
				}
				order[i] = x
			}
			if x, ok := p.Take(0); ok || p.Len() != 0 {
				t.Errorf("draws %v: got %d and %v from an empty pool, and the length %d", list, x, ok, p.Len())
			}
			orders[order] = true
		})
		factorial := 1
		for i := range n {
			factorial *= i + 1
		}
		if len(orders) != factorial {
			t.Errorf("%d items: got %d orders, want %d", n, len(orders), factorial)
		}
	}
}

// P11.4: items that are equal are taken as often as they were put.
func TestEqualItems(t *testing.T) {
	for _, draw := range draws() {
		p := New(7, 0, 7)
		p.Put(0)
		p.Put(7)
		count := map[int]int{}
		for range 5 {
			x, ok := p.Take(draw)
			if !ok {
				t.Errorf("draw %d: the pool is empty too early", draw)
			}
			count[x]++
		}
		if count[7] != 3 || count[0] != 2 {
			t.Errorf("draw %d: got the counts %v", draw, count)
		}
		checkEmpty(t, p)
	}
}

// P11.1, P11.2, P11.4: long sequences of calls, compared with a list.
func TestSequences(t *testing.T) {
	for seed := range int64(40) {
		random := rand.New(rand.NewSource(seed))
		list := numbered(random.Intn(30))
		p, next, taken := New(list...), 1000, map[int]bool{}
		for range 1000 {
			// Half of the seeds let the pool grow, and the other half keep it nearly empty.
			if random.Intn(5) < 2+int(seed%2) {
				p.Put(next)
				list = append(slices.Clone(list), next)
				next++
			} else if draw := random.Uint64(); len(list) == 0 {
				if x, ok := p.Take(draw); x != 0 || ok {
					t.Errorf("Take from an empty pool: got %d and %v", x, ok)
				}
			} else {
				i := remainder(draw, len(list))
				checkTake(t, p, draw, list[i])
				if taken[list[i]] {
					t.Errorf("%d is taken twice", list[i])
				}
				taken[list[i]] = true
				list = after(list, i)
			}
			checkItems(t, p, list...)
		}
		if t.Failed() {
			t.Fatalf("seed %d", seed)
		}
	}
}

// P11.1 and general rule 7: an iterator can be stopped anywhere, used again, and used within its own loop, and changes nothing.
func TestAllStopsAndStartsAgain(t *testing.T) {
	list := numbered(6)
	p := New(list...)
	seq := p.All()
	for stop := range list {
		var got []int
		for x := range seq {
			got = append(got, x)
			if len(got) > stop {
				break
			}
		}
		if !slices.Equal(got, list[:stop+1]) {
			t.Errorf("stopped at %d: got %v", stop, got)
		}
	}
	var outer []int
	for x := range seq {
		outer = append(outer, x)
		if inner := slices.Collect(seq); !slices.Equal(inner, list) {
			t.Errorf("the inner loop at %d: got %v", x, inner)
		}
	}
	if !slices.Equal(outer, list) {
		t.Errorf("the outer loop: got %v", outer)
	}
	checkItems(t, p, list...)
}

// P11.1 and general rule 7: a loop shows the items as they are when it begins, not when All is called, whatever is taken and put within it.
func TestAllAsTheLoopBegins(t *testing.T) {
	p := New[int]()
	seq := p.All()
	for n := range 12 {
		for range p.Len() {
			p.Take(0)
		}
		for _, x := range numbered(n) {
			p.Put(x)
		}
		var got []int
		for x := range seq {
			got = append(got, x)
			p.Take(0)
			p.Take(uint64(x))
			p.Put(-x)
		}
		if !slices.Equal(got, numbered(n)) {
			t.Errorf("%d items: got %v", n, got)
		}
	}
}

// P11.1 and general rule 7: a loop that empties the pool and fills it again shows nothing of that.
func TestAllOfAPoolThatIsFilledAgain(t *testing.T) {
	p := New(numbered(8)...)
	var got []int
	for x := range p.All() {
		got = append(got, x)
		for range p.Len() {
			p.Take(uint64(x))
		}
		for i := range 8 {
			p.Put(i)
		}
	}
	if !slices.Equal(got, numbered(8)) {
		t.Errorf("got %v", got)
	}
	checkItems(t, p, 0, 1, 2, 3, 4, 5, 6, 7)
}

// P11.1 and general rule 3: the argument of New is neither changed nor kept, together with what lies behind it in memory.
func TestArguments(t *testing.T) {
	memory := numbered(6)
	p := New(memory[:4]...)
	p.Put(1)
	p.Put(2)
	checkTake(t, p, 0, 100)
	checkTake(t, p, 1, 101)
	if !slices.Equal(memory, numbered(6)) {
		t.Errorf("got the argument %v", memory)
	}
	for i := range memory {
		memory[i] = -1
	}
	checkItems(t, p, 2, 1, 102, 103)
}

// General rule 6: pools that were made from the same items are independent.
func TestPoolsAreIndependent(t *testing.T) {
	list := numbered(4)
	one, other := New(list...), New(list...)
	checkTake(t, one, 0, 100)
	one.Put(1)
	checkItems(t, one, 103, 101, 102, 1)
	checkItems(t, other, list...)
	checkTake(t, other, 5, 101)
	other.Put(2)
	checkItems(t, one, 103, 101, 102, 1)
	checkItems(t, other, 100, 103, 102, 2)
	copied := New(slices.Collect(one.All())...)
	checkTake(t, copied, 3, 1)
	checkItems(t, one, 103, 101, 102, 1)
}

// General rule 3: a pool no longer refers to an item that was taken.
func TestTakenItemsAreForgotten(t *testing.T) {
	for draw := range uint64(4) {
		p := New(new(int), new(int), new(int))
		p.Put(new(int))
		for range 4 {
			p.Take(draw)
			for _, x := range p.items[p.Len():cap(p.items)] {
				if x != nil {
					t.Errorf("draw %d, length %d: a taken item is kept", draw, p.Len())
				}
			}
		}
	}
}

// P11.1 to P11.3: a pool takes items of any type, also of types whose values cannot be compared, are not equal to themselves, or have no bytes.
func TestItemsOfAnyType(t *testing.T) {
	lists := New([]int{1}, nil, []int{2, 3})
	if x, ok := lists.Take(2); !ok || !slices.Equal(x, []int{2, 3}) || lists.Len() != 2 {
		t.Errorf("slices: got %v and %v", x, ok)
	}
	if x, ok := lists.Take(1); !ok || x != nil || lists.Len() != 1 {
		t.Errorf("a nil slice: got %v and %v", x, ok)
	}
	functions := New(func() int { return 1 }, func() int { return 2 })
	if f, ok := functions.Take(3); !ok || f() != 2 {
		t.Errorf("functions: got the wrong one, or %v", ok)
	}
	numbers := New(math.NaN(), 1, math.NaN())
	if x, ok := numbers.Take(0); !ok || !math.IsNaN(x) || numbers.Len() != 2 {
		t.Errorf("numbers: got %v and %v", x, ok)
	}
	checkTake(t, numbers, 1, 1)
	checkItems(t, New[any](nil, 1, "x"), nil, 1, "x")
	checkTake(t, New[error](nil), 9, nil)
	nothing := New(struct{}{}, struct{}{})
	nothing.Put(struct{}{})
	checkItems(t, nothing, struct{}{}, struct{}{}, struct{}{})
	for range 3 {
		checkTake(t, nothing, math.MaxUint64, struct{}{})
	}
	checkEmpty(t, nothing)
}
