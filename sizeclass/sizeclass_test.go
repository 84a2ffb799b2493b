package sizeclass

import (
	"math"
	"slices"
	"testing"

	"pluginhost/api"
)

// count is the number of sizes that the document states.
const count = 43

// isSize reports whether n is a size, as the document lists them.
func isSize(n int) bool {
	switch n {
	case 256, 512, 1024, 2048:
		return true
	}
	if 16 <= n && n <= 128 {
		return n%16 == 0
	}
	return 4096 <= n && n <= api.MaxObject && n%2048 == 0
}

// sizesAsDefined returns all sizes in ascending order, so that the index of each one is its class.
func sizesAsDefined() []int {
	var list []int
	for n := range api.MaxObject + 1 {
		if isSize(n) {
			list = append(list, n)
		}
	}
	return list
}

func checkRound(t *testing.T, n, size, class int, e api.Errno) {
	t.Helper()
	if got, code := Round(n); got != size || code != e {
		t.Errorf("Round of %d: got %d and %d, want %d and %d", n, got, code, size, e)
	}
	if got, code := Class(n); got != class || code != e {
		t.Errorf("Class of %d: got %d and %d, want %d and %d", n, got, code, class, e)
	}
}

// P5.1: the examples of the document, and both sides of each place where the sizes begin to grow in another way.
func TestRound(t *testing.T) {
	for _, c := range []struct{ n, size, class int }{
		{1, 16, 0},
		{15, 16, 0},
		{16, 16, 0},
		{17, 32, 1},
		{112, 112, 6},
		{113, 128, 7},
		{128, 128, 7},
		{129, 256, 8},
		{256, 256, 8},
		{257, 512, 9},
		{512, 512, 9},
		{513, 1024, 10},
		{1024, 1024, 10},
		{1025, 2048, 11},
		{2048, 2048, 11},
		{2049, 4096, 12},
		{4096, 4096, 12},
		{4097, 6144, 13},
		{8192, 8192, 14},
		{8193, 10240, 15},
		{api.MaxObject - 2048, api.MaxObject - 2048, count - 2},
		{api.MaxObject - 2047, api.MaxObject, count - 1},
		{api.MaxObject, api.MaxObject, count - 1},
	} {
		checkRound(t, c.n, c.size, c.class, api.OK)
	}
}

// P5.1
func TestRoundErrors(t *testing.T) {
	for _, n := range []int{math.MinInt, math.MinInt + 1, math.MinInt32, -api.MaxObject - 1, -api.MaxObject, -16, -1, 0} {
		checkRound(t, n, 0, 0, api.ErrArg)
	}
	for _, n := range []int{api.MaxObject + 1, api.MaxObject + 2048, 2 * api.MaxObject, api.MaxArena, math.MaxInt32, math.MaxUint32, math.MaxInt - 1, math.MaxInt} {
		checkRound(t, n, 0, 0, api.ErrBig)
	}
}

// P5.1: all numbers that have a size.
func TestRoundAsDefined(t *testing.T) {
	sizes := sizesAsDefined()
	class := 0
	for n := 1; n <= api.MaxObject; n++ {
		if sizes[class] < n {
			class++
		}
		checkRound(t, n, sizes[class], class, api.OK)
	}
}

// P5.2
func TestSizes(t *testing.T) {
	var classes, sizes []int
	for class, size := range Sizes() {
		classes = append(classes, class)
		sizes = append(sizes, size)
	}
	for i, class := range classes {
		if class != i {
			t.Errorf("the class at the position %d is %d", i, class)
		}
	}
	if want := sizesAsDefined(); !slices.Equal(sizes, want) {
		t.Errorf("got the sizes %v, want %v", sizes, want)
	}
	if len(sizes) != count {
		t.Errorf("got %d sizes", len(sizes))
	}
}

// P5.2 and general rule 7: a loop may stop anywhere, and the next one begins anew, even within another one.
func TestSizesAgain(t *testing.T) {
	want := sizesAsDefined()
	seq := Sizes()
	for stop := range want {
		var got []int
		for class, size := range seq {
			if class != len(got) {
				t.Errorf("a loop that stops at %d: got the class %d, want %d", stop, class, len(got))
			}
			got = append(got, size)
			if class == stop {
				break
			}
		}
		if !slices.Equal(got, want[:stop+1]) {
			t.Errorf("the first %d sizes: got %v", stop+1, got)
		}
	}
	rounds := 0
	for range seq {
		var got []int
		for _, size := range seq {
			got = append(got, size)
		}
		if !slices.Equal(got, want) {
			t.Errorf("a loop within a loop: got %v, want %v", got, want)
		}
		rounds++
	}
	if rounds != count {
		t.Errorf("the outer loop had %d rounds", rounds)
	}
}

// P5.3
func TestRoundIsMonotone(t *testing.T) {
	last := 0
	for n := 1; n <= api.MaxObject; n++ {
		size, e := Round(n)
		if e != api.OK || size < last || size < n {
			t.Fatalf("Round of %d: got %d and %d after %d", n, size, e, last)
		}
		last = size
	}
}

// P5.3, and P5.1 for the classes.
func TestRoundOfSizes(t *testing.T) {
	for class, size := range Sizes() {
		checkRound(t, size, size, class, api.OK)
	}
	for n := 1; n <= api.MaxObject; n++ {
		size, _ := Round(n)
		if again, e := Round(size); again != size || e != api.OK {
			t.Errorf("Round of Round of %d: got %d and %d, want %d", n, again, e, size)
		}
	}
}
