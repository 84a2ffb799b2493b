package extents

import (
	"math"
	"math/big"
	"slices"
	"testing"

	"pluginhost/api"
)

// width is the number of offsets of a small set, which is a number with a bit for each of them.
const width = 8

func x(off, length int) api.Extent { return api.Extent{Off: off, Len: length} }

func set(list ...api.Extent) []api.Extent { return list }

// bases returns the places of the arena to which the small sets are moved: its beginning, the next place, its middle and its end.
func bases() []int { return []int{0, 1, 5000, api.MaxArena - width} }

// extremes returns numbers at the bounds of the arena and of the integers, where sums and differences wrap around.
func extremes() []int {
	return []int{
		math.MinInt, math.MinInt + 1, math.MinInt + api.MaxArena, -api.MaxArena - 1, -api.MaxArena, -2, -1, 0, 1, 2, 3,
		api.MaxArena - 2, api.MaxArena - 1, api.MaxArena, api.MaxArena + 1, math.MaxInt - api.MaxArena, math.MaxInt - 1, math.MaxInt,
	}
}

// extremeExtents returns an extent for each pair of extremes.
func extremeExtents() []api.Extent {
	var list []api.Extent
	for _, off := range extremes() {
		for _, length := range extremes() {
			list = append(list, x(off, length))
		}
	}
	return list
}

// nearby returns all extents around the small sets at base, with improper ones and ones that reach beyond the sets on both sides.
func nearby(base int) []api.Extent {
	var list []api.Extent
	for off := base - 2; off <= base+width+1; off++ {
		for length := -1; length <= width+4; length++ {
			list = append(list, x(off, length))
		}
	}
	return list
}

// invalidLists returns lists each of which breaks one condition of a valid list, at the beginning, within and at the end.
func invalidLists() [][]api.Extent {
	list := [][]api.Extent{
		set(x(0, 2), x(2, 1)),
		set(x(0, 2), x(1, 2)),
		set(x(0, 4), x(1, 2)),
		set(x(4, 1), x(4, 1)),
		set(x(6, 1), x(4, 1)),
		set(x(0, 1), x(6, 1), x(4, 1), x(8, 1)),
		set(x(0, 1), x(2, 2), x(4, 1), x(8, 1)),
		set(x(0, 1), x(2, 1), x(4, 2), x(5, 1)),
		set(x(0, api.MaxArena), x(0, api.MaxArena)),
	}
	for _, bad := range extremeExtents() {
		if !properAsDefined(bad) {
			list = append(list, set(bad), set(bad, x(10, 1)), set(x(10, 1), bad))
		}
	}
	return list
}

// properAsDefined reports in unbounded numbers what a proper extent is.
func properAsDefined(e api.Extent) bool {
	last := new(big.Int).Add(big.NewInt(int64(e.Off)), big.NewInt(int64(e.Len)))
	return e.Off >= 0 && e.Len > 0 && last.Cmp(big.NewInt(api.MaxArena)) <= 0
}

// listOf returns the valid list of the offsets for which in reports true, from base on.
func listOf(base, size int, in func(int) bool) []api.Extent {
	var list []api.Extent
	for off := base; off < base+size; off++ {
		switch {
		case !in(off):
		case off > base && in(off-1):
			list[len(list)-1].Len++
		default:
			list = append(list, x(off, 1))
		}
	}
	return list
}

// small returns the valid list of the small set bits at base.
func small(base int, bits uint) []api.Extent {
	return listOf(base, width, func(off int) bool { return bits>>(off-base)&1 == 1 })
}

// bitsOf returns the bits of e in the small sets at base, and whether all its offsets are among theirs.
func bitsOf(base int, e api.Extent) (uint, bool) {
	bits := uint(0)
	inside := true
	for off := e.Off; off < e.Off+e.Len; off++ {
		if off < base || off >= base+width {
			inside = false
		} else {
			bits |= 1 << (off - base)
		}
	}
	return bits, inside
}

func offsetsOf(set []api.Extent) []int {
	var list []int
	for off := range Offsets(set) {
		list = append(list, off)
	}
	return list
}

func checkList(t *testing.T, what string, args any, got []api.Extent, e api.Errno, want []api.Extent, wantError api.Errno) {
	t.Helper()
	if !slices.Equal(got, want) || e != wantError {
		t.Errorf("%s of %v: got %v and %d, want %v and %d", what, args, got, e, want, wantError)
	}
}

// args are the arguments of a call, as a failed check shows them.
type args struct {
	set  []api.Extent
	rest any
}

func checkInsert(t *testing.T, set []api.Extent, e api.Extent, want []api.Extent, wantError api.Errno) {
	t.Helper()
	got, code := Insert(set, e)
	checkList(t, "Insert", args{set, e}, got, code, want, wantError)
}

func checkRemove(t *testing.T, set []api.Extent, e api.Extent, want []api.Extent, wantError api.Errno) {
	t.Helper()
	got, code := Remove(set, e)
	checkList(t, "Remove", args{set, e}, got, code, want, wantError)
}

func checkComplement(t *testing.T, set []api.Extent, size int, want []api.Extent, wantError api.Errno) {
	t.Helper()
	got, code := Complement(set, size)
	checkList(t, "Complement", args{set, size}, got, code, want, wantError)
}

// P4.1
func TestValid(t *testing.T) {
	for _, list := range [][]api.Extent{
		nil,
		{},
		set(x(0, 1)),
		set(x(0, api.MaxArena)),
		set(x(1, api.MaxArena-1)),
		set(x(api.MaxArena-1, 1)),
		set(x(0, 2), x(3, 1)),
		set(x(0, 2), x(3, 1), x(5, 7), x(13, 1)),
		set(x(0, 1), x(api.MaxArena-1, 1)),
		set(x(0, api.MaxArena-2), x(api.MaxArena-1, 1)),
	} {
		if !Valid(list) {
			t.Errorf("%v is not valid", list)
		}
	}
	for _, list := range invalidLists() {
		if Valid(list) {
			t.Errorf("%v is valid", list)
		}
	}
	for _, e := range extremeExtents() {
		if got, want := Valid(set(e)), properAsDefined(e); got != want {
			t.Errorf("Valid of %v alone: got %v, want %v", e, got, want)
		}
	}
}

// P4.1: a list of proper extents is valid exactly if it is the one list of its set.
func TestValidAsDefined(t *testing.T) {
	var extents []api.Extent
	for off := -1; off < 6; off++ {
		for length := -1; length < 4; length++ {
			extents = append(extents, x(off, length))
		}
	}
	check := func(list ...api.Extent) {
		in := func(off int) bool {
			return slices.ContainsFunc(list, func(e api.Extent) bool { return e.Off <= off && off < e.Off+e.Len })
		}
		want := !slices.ContainsFunc(list, func(e api.Extent) bool { return !properAsDefined(e) }) && slices.Equal(list, listOf(0, 10, in))
		if got := Valid(list); got != want {
			t.Errorf("Valid of %v: got %v, want %v", list, got, want)
		}
	}
	for _, a := range extents {
		check(a)
		for _, b := range extents {
			check(a, b)
			for _, c := range extents {
				check(a, b, c)
			}
		}
	}
}

// P4.2
func TestInsert(t *testing.T) {
	s := set(x(0, 4), x(10, 2))
	for _, c := range []struct {
		e    api.Extent
		want []api.Extent
	}{
		{x(4, 4), set(x(0, 8), x(10, 2))},
		{x(8, 2), set(x(0, 4), x(8, 4))},
		{x(4, 6), set(x(0, 12))},
		{x(5, 4), set(x(0, 4), x(5, 4), x(10, 2))},
		{x(12, 1), set(x(0, 4), x(10, 3))},
		{x(13, 1), set(x(0, 4), x(10, 2), x(13, 1))},
		{x(12, api.MaxArena-12), set(x(0, 4), x(10, api.MaxArena-10))},
		{x(api.MaxArena-1, 1), set(x(0, 4), x(10, 2), x(api.MaxArena-1, 1))},
	} {
		checkInsert(t, s, c.e, c.want, api.OK)
	}
	for _, e := range []api.Extent{x(0, 1), x(0, 4), x(3, 1), x(3, 2), x(3, 9), x(4, 7), x(9, 2), x(11, 1), x(11, 5), x(5, 20), x(0, api.MaxArena), x(4, api.MaxArena-4)} {
		checkInsert(t, s, e, nil, api.ErrOverlap)
	}
	checkInsert(t, nil, x(2, 3), set(x(2, 3)), api.OK)
	checkInsert(t, set(), x(0, api.MaxArena), set(x(0, api.MaxArena)), api.OK)
	checkInsert(t, set(x(5, 1)), x(0, 5), set(x(0, 6)), api.OK)
	checkInsert(t, set(x(5, 1)), x(0, 4), set(x(0, 4), x(5, 1)), api.OK)
	checkInsert(t, set(x(0, api.MaxArena)), x(api.MaxArena-1, 1), nil, api.ErrOverlap)
}

// P4.2: all small sets and all extents around them.
func TestInsertAsDefined(t *testing.T) {
	for _, base := range bases() {
		for bits := range uint(1 << width) {
			s := small(base, bits)
			for _, e := range nearby(base) {
				added, inside := bitsOf(base, e)
				switch {
				case !properAsDefined(e):
					checkInsert(t, s, e, nil, api.ErrArg)
				case bits&added != 0:
					checkInsert(t, s, e, nil, api.ErrOverlap)
				case inside:
					checkInsert(t, s, e, small(base, bits|added), api.OK)
				default:
					in := func(off int) bool { return Contains(s, off) || Contains(set(e), off) }
					checkInsert(t, s, e, listOf(max(0, base-2), 2*width+8, in), api.OK)
				}
			}
		}
	}
}

// P4.2 and P4.3: ErrArg comes before ErrOverlap and ErrAbsent, which most of these calls would return as well.
func TestInsertAndRemoveRefuseArguments(t *testing.T) {
	for _, list := range invalidLists() {
		for _, e := range []api.Extent{x(0, 1), x(4, 1), x(10, 1), x(20, 1), x(0, api.MaxArena), x(0, 0), x(-1, 5)} {
			checkInsert(t, list, e, nil, api.ErrArg)
			checkRemove(t, list, e, nil, api.ErrArg)
		}
	}
	for _, e := range extremeExtents() {
		if properAsDefined(e) {
			continue
		}
		for _, list := range [][]api.Extent{nil, set(x(0, 1)), set(x(0, 4), x(10, 2)), set(x(0, api.MaxArena))} {
			checkInsert(t, list, e, nil, api.ErrArg)
			checkRemove(t, list, e, nil, api.ErrArg)
		}
	}
}

// P4.3
func TestRemove(t *testing.T) {
	s := set(x(0, 4), x(10, 10))
	for _, c := range []struct {
		e    api.Extent
		want []api.Extent
	}{
		{x(0, 4), set(x(10, 10))},
		{x(10, 10), set(x(0, 4))},
		{x(0, 1), set(x(1, 3), x(10, 10))},
		{x(3, 1), set(x(0, 3), x(10, 10))},
		{x(12, 3), set(x(0, 4), x(10, 2), x(15, 5))},
		{x(19, 1), set(x(0, 4), x(10, 9))},
	} {
		checkRemove(t, s, c.e, c.want, api.OK)
	}
	for _, e := range []api.Extent{x(3, 2), x(4, 1), x(4, 6), x(9, 2), x(9, 11), x(10, 11), x(0, 20), x(20, 1), x(api.MaxArena-1, 1), x(0, api.MaxArena)} {
		checkRemove(t, s, e, nil, api.ErrAbsent)
	}
	checkRemove(t, nil, x(0, 1), nil, api.ErrAbsent)
	checkRemove(t, set(x(0, 4)), x(0, 4), nil, api.OK)
	checkRemove(t, set(x(0, api.MaxArena)), x(0, api.MaxArena), nil, api.OK)
	checkRemove(t, set(x(0, api.MaxArena)), x(api.MaxArena-1, 1), set(x(0, api.MaxArena-1)), api.OK)
}

// P4.3: all small sets and all extents around them.
func TestRemoveAsDefined(t *testing.T) {
	for _, base := range bases() {
		for bits := range uint(1 << width) {
			s := small(base, bits)
			for _, e := range nearby(base) {
				removed, inside := bitsOf(base, e)
				switch {
				case !properAsDefined(e):
					checkRemove(t, s, e, nil, api.ErrArg)
				case !inside || bits&removed != removed:
					checkRemove(t, s, e, nil, api.ErrAbsent)
				default:
					checkRemove(t, s, e, small(base, bits&^removed), api.OK)
				}
			}
		}
	}
}

// P4.4
func TestContains(t *testing.T) {
	for _, c := range []struct {
		set  []api.Extent
		off  int
		want bool
	}{
		{nil, 0, false},
		{set(x(2, 2), x(6, 1)), -1, false},
		{set(x(2, 2), x(6, 1)), 1, false},
		{set(x(2, 2), x(6, 1)), 2, true},
		{set(x(2, 2), x(6, 1)), 3, true},
		{set(x(2, 2), x(6, 1)), 4, false},
		{set(x(2, 2), x(6, 1)), 6, true},
		{set(x(2, 2), x(6, 1)), 7, false},
		{set(x(0, api.MaxArena)), api.MaxArena - 1, true},
		{set(x(0, api.MaxArena)), api.MaxArena, false},
		// The lists from here on are not valid.
		{set(x(9, 1), x(0, 3)), 1, true},
		{set(x(0, 3), x(0, 9)), 5, true},
		{set(x(-5, 3)), -3, true},
		{set(x(-5, 3)), -2, false},
		{set(x(5, 0)), 5, false},
		{set(x(5, -1)), 5, false},
		{set(x(5, math.MaxInt)), math.MaxInt, true},
		{set(x(math.MaxInt, 1)), math.MaxInt, true},
		{set(x(math.MaxInt, 1)), math.MinInt, false},
		{set(x(math.MinInt, 1)), math.MinInt, true},
		// The difference is -2^63 or -1 here, since it wraps around.
		{set(x(-1, 1)), math.MaxInt, true},
		{set(x(-1, math.MinInt)), math.MaxInt, false},
		{set(x(-1, math.MinInt+1)), math.MaxInt, true},
		{set(x(math.MinInt, 0)), 0, true},
		{set(x(math.MinInt, 0)), math.MaxInt, true},
		{set(x(math.MinInt, -1)), math.MaxInt, false},
	} {
		if got := Contains(c.set, c.off); got != c.want {
			t.Errorf("Contains of %v and %d: got %v, want %v", c.set, c.off, got, c.want)
		}
	}
}

// P4.4: numbers at the bounds, with the difference in the unsigned numbers, where wrapping around is not in doubt.
func TestContainsAsDefined(t *testing.T) {
	for _, e := range extremeExtents() {
		for _, off := range extremes() {
			want := e.Off <= off && int(uint64(off)-uint64(e.Off)) < e.Len
			for _, list := range [][]api.Extent{set(e), set(e, x(7, 0)), set(x(7, 0), x(7, -1), e)} {
				if got := Contains(list, off); got != want {
					t.Errorf("Contains of %v and %d: got %v, want %v", list, off, got, want)
				}
			}
		}
	}
}

// P4.4
func TestTotal(t *testing.T) {
	for _, c := range []struct {
		set  []api.Extent
		want int
	}{
		{nil, 0},
		{set(), 0},
		{set(x(2, 2), x(6, 1)), 3},
		{set(x(0, api.MaxArena)), api.MaxArena},
		// The lists from here on are not valid.
		{set(x(0, 5), x(0, 5)), 10},
		{set(x(0, -3), x(0, 5)), 2},
		{set(x(-7, -3)), -3},
		{set(x(0, math.MaxInt), x(0, 1)), math.MinInt},
		{set(x(0, math.MinInt), x(0, -1)), math.MaxInt},
		{set(x(0, math.MinInt), x(0, math.MinInt)), 0},
		{set(x(0, math.MaxInt), x(0, math.MaxInt), x(0, 3)), 1},
	} {
		if got := Total(c.set); got != c.want {
			t.Errorf("Total of %v: got %d, want %d", c.set, got, c.want)
		}
	}
}

// P4.4 and P4.6: what Contains, Total and Offsets say of all small sets.
func TestMembersOfSmallSets(t *testing.T) {
	for _, base := range bases() {
		for bits := range uint(1 << width) {
			s := small(base, bits)
			var want []int
			for off := base - 1; off <= base+width; off++ {
				in := off >= base && bits>>(off-base)&1 == 1
				if Contains(s, off) != in {
					t.Errorf("Contains of %v and %d: got %v", s, off, !in)
				}
				if in {
					want = append(want, off)
				}
			}
			if got := Total(s); got != len(want) {
				t.Errorf("Total of %v: got %d, want %d", s, got, len(want))
			}
			if got := offsetsOf(s); !slices.Equal(got, want) {
				t.Errorf("Offsets of %v: got %v, want %v", s, got, want)
			}
		}
	}
}

// P4.5
func TestComplement(t *testing.T) {
	s := set(x(2, 2), x(6, 1))
	checkComplement(t, s, 9, set(x(0, 2), x(4, 2), x(7, 2)), api.OK)
	checkComplement(t, s, 8, set(x(0, 2), x(4, 2), x(7, 1)), api.OK)
	checkComplement(t, s, 7, set(x(0, 2), x(4, 2)), api.OK)
	checkComplement(t, s, api.MaxArena, set(x(0, 2), x(4, 2), x(7, api.MaxArena-7)), api.OK)
	checkComplement(t, nil, 0, nil, api.OK)
	checkComplement(t, nil, 1, set(x(0, 1)), api.OK)
	checkComplement(t, nil, api.MaxArena, set(x(0, api.MaxArena)), api.OK)
	checkComplement(t, set(x(0, 5)), 5, nil, api.OK)
	checkComplement(t, set(x(0, api.MaxArena)), api.MaxArena, nil, api.OK)
	for _, size := range []int{math.MinInt, -1, 0, 1, 4, 5, 6, api.MaxArena + 1, math.MaxInt} {
		checkComplement(t, s, size, nil, api.ErrArg)
	}
	for _, size := range []int{math.MinInt, -1, api.MaxArena + 1, math.MaxInt} {
		checkComplement(t, nil, size, nil, api.ErrArg)
	}
	checkComplement(t, set(x(0, api.MaxArena)), api.MaxArena-1, nil, api.ErrArg)
	checkComplement(t, set(x(api.MaxArena-1, 1)), 0, nil, api.ErrArg)
	for _, list := range invalidLists() {
		for _, size := range []int{-1, 0, 3, 100, api.MaxArena, math.MaxInt} {
			checkComplement(t, list, size, nil, api.ErrArg)
		}
	}
}

// P4.5: all small sets and all sizes around them.
func TestComplementAsDefined(t *testing.T) {
	for bits := range uint(1 << width) {
		s := small(0, bits)
		for size := -1; size < 2*width; size++ {
			if size < 0 || size < width && bits>>size != 0 {
				checkComplement(t, s, size, nil, api.ErrArg)
				continue
			}
			want := listOf(0, size, func(off int) bool { return bits>>off&1 == 0 })
			checkComplement(t, s, size, want, api.OK)
		}
	}
}

// P4.6
func TestOffsets(t *testing.T) {
	if got := offsetsOf(set(x(2, 2), x(6, 1))); !slices.Equal(got, []int{2, 3, 6}) {
		t.Errorf("got %v", got)
	}
	for _, list := range append(invalidLists(), nil, set()) {
		for off := range Offsets(list) {
			t.Errorf("Offsets of %v begin with %d", list, off)
			break
		}
	}
	next := 0
	for off := range Offsets(set(x(0, api.MaxArena))) {
		if off != next {
			t.Fatalf("Offsets of the whole arena: got %d, want %d", off, next)
		}
		next++
	}
	if next != api.MaxArena {
		t.Errorf("Offsets of the whole arena: got %d offsets", next)
	}
}

// P4.6 and general rule 7: a loop may stop anywhere, and the next one begins anew, even within another one.
func TestOffsetsAgain(t *testing.T) {
	want := []int{2, 3, 6, 9, 10, 11}
	seq := Offsets(set(x(2, 2), x(6, 1), x(9, 3)))
	for stop := range want {
		var got []int
		for off := range seq {
			got = append(got, off)
			if len(got) > stop {
				break
			}
		}
		if !slices.Equal(got, want[:stop+1]) {
			t.Errorf("the first %d offsets: got %v", stop+1, got)
		}
	}
	rounds := 0
	for range seq {
		if got := slices.Collect(seq); !slices.Equal(got, want) {
			t.Errorf("a loop within a loop: got %v, want %v", got, want)
		}
		rounds++
	}
	if rounds != len(want) {
		t.Errorf("the outer loop had %d rounds", rounds)
	}
}

// P4.6 and general rule 3: the iterator does not refer to the list that it was made from.
func TestOffsetsKeepsNoArgument(t *testing.T) {
	list := set(x(2, 2), x(6, 1))
	seq := Offsets(list)
	var got []int
	list[0] = x(0, 1)
	for off := range seq {
		got = append(got, off)
		list[1] = x(8, math.MaxInt)
	}
	if !slices.Equal(got, []int{2, 3, 6}) {
		t.Errorf("the offsets changed with the list: got %v", got)
	}
	list = set(x(2, 0))
	seq = Offsets(list)
	list[0] = x(2, 1)
	if got := slices.Collect(seq); len(got) != 0 {
		t.Errorf("a list that was not valid: got %v", got)
	}
}

// P4.7: all small sets.
func TestInsertAndRemoveAreInverse(t *testing.T) {
	for _, base := range bases() {
		for bits := range uint(1 << width) {
			s := small(base, bits)
			for _, e := range nearby(base) {
				if more, code := Insert(s, e); code == api.OK {
					checkRemove(t, more, e, s, api.OK)
				}
				if less, code := Remove(s, e); code == api.OK {
					checkInsert(t, less, e, s, api.OK)
				}
			}
		}
	}
}

// P4.7: all small sets and all pairs of disjoint extents that are not in them.
func TestInsertionsCommute(t *testing.T) {
	for _, base := range []int{0, api.MaxArena - width} {
		for bits := range uint(1 << width) {
			s := small(base, bits)
			for _, a := range nearby(base) {
				withA, code := Insert(s, a)
				if code != api.OK {
					continue
				}
				for _, b := range nearby(base) {
					withB, codeB := Insert(s, b)
					both, codeBoth := Insert(withA, b)
					if codeB != api.OK || codeBoth != api.OK {
						continue
					}
					checkInsert(t, withB, a, both, api.OK)
				}
			}
		}
	}
}

// P4.7
func TestComplementTwice(t *testing.T) {
	check := func(s []api.Extent, size int) {
		rest, code := Complement(s, size)
		if code != api.OK || !Valid(rest) || Total(rest)+Total(s) != size {
			t.Errorf("Complement of %v and %d: got %v and %d", s, size, rest, code)
		}
		checkComplement(t, rest, size, s, api.OK)
	}
	for bits := range uint(1 << width) {
		check(small(0, bits), width)
		check(small(0, bits), width+1)
		check(small(0, bits), api.MaxArena)
		check(small(5, bits), width+5)
		check(small(api.MaxArena-width, bits), api.MaxArena)
	}
}

// P4.2, P4.3 and P4.5: a long run of calls on one set, against the offsets that it should have.
func TestLongRun(t *testing.T) {
	const size = 200
	in := make([]bool, size)
	var s []api.Extent
	mixed := uint64(1)
	draw := func(n int) int {
		mixed = mixed*6364136223846793005 + 1442695040888963407
		return int(mixed >> 33 % uint64(n))
	}
	for range 20000 {
		off := draw(size)
		e := x(off, 1+draw(min(12, size-off)))
		part := in[e.Off : e.Off+e.Len]
		var next []api.Extent
		var got, want api.Errno
		adding := draw(2) == 0
		if adding {
			next, got = Insert(s, e)
			want = api.ErrOverlap
		} else {
			next, got = Remove(s, e)
			want = api.ErrAbsent
		}
		if !slices.Contains(part, adding) {
			for i := range part {
				part[i] = adding
			}
			s, want = next, api.OK
		}
		if got != want || !slices.Equal(s, listOf(0, size, func(off int) bool { return in[off] })) {
			t.Fatalf("%v (added: %v): got %d and %v, want %d", e, adding, got, s, want)
		}
		checkComplement(t, s, size, listOf(0, size, func(off int) bool { return !in[off] }), api.OK)
	}
}

// P4.2 and P4.5: the most extents that a set can have.
func TestMostExtents(t *testing.T) {
	var even, odd []api.Extent
	for off := 0; off < api.MaxArena; off += 2 {
		even = append(even, x(off, 1))
		odd = append(odd, x(off+1, 1))
	}
	if !Valid(even) || !Valid(odd) || Total(even) != api.MaxArena/2 {
		t.Error("a set of every second offset is not valid")
	}
	if got, code := Complement(even, api.MaxArena); code != api.OK || !slices.Equal(got, odd) {
		t.Error("the odd offsets are not the complement of the even ones")
	}
	got, code := Insert(even, x(1, 1))
	if code != api.OK || len(got) != len(even)-1 || got[0] != x(0, 3) || !slices.Equal(got[1:], even[2:]) {
		t.Errorf("Insert of an odd offset: got %d extents and %d", len(got), code)
	}
	if got, code := Remove(got, x(1, 1)); code != api.OK || !slices.Equal(got, even) {
		t.Errorf("Remove of an odd offset: got %d extents and %d", len(got), code)
	}
}

// General rule 3: the arguments stay as they are, also behind their end, and results are new memory.
func TestArgumentsStay(t *testing.T) {
	calls := []func([]api.Extent) []api.Extent{
		func(s []api.Extent) []api.Extent { r, _ := Complement(s, 40); return r },
	}
	for _, e := range []api.Extent{x(0, 2), x(0, 1), x(4, 1), x(4, 2), x(4, 4), x(6, 2), x(6, 1), x(10, 1), x(11, 1), x(30, 1), x(2, 9)} {
		calls = append(calls, func(s []api.Extent) []api.Extent { r, _ := Insert(s, e); return r })
	}
	for _, e := range []api.Extent{x(2, 2), x(2, 1), x(3, 1), x(8, 2), x(8, 1), x(9, 1), x(14, 4), x(15, 2), x(17, 1), x(40, 1)} {
		calls = append(calls, func(s []api.Extent) []api.Extent { r, _ := Remove(s, e); return r })
	}
	for i, call := range calls {
		memory := set(x(2, 2), x(8, 2), x(14, 4), x(77, 1), x(88, 1), x(99, 1))
		before := slices.Clone(memory)
		result := call(memory[:3])
		if !slices.Equal(memory, before) {
			t.Errorf("call %d changed its argument to %v", i, memory)
		}
		want := slices.Clone(result)
		for k := range memory {
			memory[k] = x(1, 1)
		}
		if !slices.Equal(result, want) {
			t.Errorf("the result of call %d changed with its argument to %v", i, result)
		}
		copy(memory, before)
		for k := range result[:cap(result)] {
			result[:cap(result)][k] = x(5, 5)
		}
		if !slices.Equal(memory, before) {
			t.Errorf("the argument of call %d changed with its result to %v", i, memory)
		}
	}
}
