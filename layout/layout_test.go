package layout

import (
	"math"
	"math/rand"
	"slices"
	"testing"

	"pluginhost/api"
)

func field(kind, count int) api.Field { return api.Field{Kind: kind, Count: count} }

func text(count int) api.Field { return field(api.String, count) }

func number(kind int) api.Field { return field(kind, 0) }

func record(fields ...api.Field) api.Type { return api.Type{Fields: fields} }

func array(n int, fields ...api.Field) api.Type { return api.Type{Len: n, Fields: fields} }

func at(off, length, kind int) api.Place { return api.Place{Off: off, Len: length, Kind: kind} }

// rule is the width and the alignment of a field.
type rule struct{ width, alignment int }

// ruleOf returns what the document states for a field of a known kind.
func ruleOf(f api.Field) rule {
	return map[int]rule{
		api.U8:     {1, 1},
		api.U16:    {2, 2},
		api.U32:    {4, 4},
		api.U64:    {8, 8},
		api.Word:   {8, 8},
		api.String: {f.Count, 1},
	}[f.Kind]
}

// placesAsDefined returns the places of a type and its size, found by trying one offset after the other.
func placesAsDefined(typ api.Type) ([]api.Place, int) {
	var list []api.Place
	end := 0
	if typ.Len > 0 {
		f := typ.Fields[0]
		for range typ.Len {
			list = append(list, at(end, ruleOf(f).width, f.Kind))
			end += ruleOf(f).width
		}
		return list, end
	}
	greatest := 0
	for _, f := range typ.Fields {
		r := ruleOf(f)
		for end%r.alignment != 0 {
			end++
		}
		list = append(list, at(end, r.width, f.Kind))
		end += r.width
		greatest = max(greatest, r.alignment)
	}
	for end%greatest != 0 {
		end++
	}
	return list, end
}

// fieldErrorAsDefined returns the error of a field.
func fieldErrorAsDefined(f api.Field) api.Errno {
	if f.Kind < 1 || f.Kind > 6 {
		return api.ErrKind
	}
	if f.Kind == api.String && f.Count <= 0 {
		return api.ErrForm
	}
	if f.Kind != api.String && f.Count != 0 {
		return api.ErrForm
	}
	if f.Count > api.MaxObject {
		return api.ErrBig
	}
	return api.OK
}

// errorAsDefined returns the first error of a type in the order of P8.1.
func errorAsDefined(typ api.Type) api.Errno {
	n := len(typ.Fields)
	if typ.Len < 0 {
		return api.ErrForm
	}
	if typ.Len > api.MaxElements {
		return api.ErrBig
	}
	if typ.Len == 0 && n == 0 {
		return api.ErrForm
	}
	if typ.Len >= 1 && n != 1 {
		return api.ErrForm
	}
	if n > api.MaxFields {
		return api.ErrBig
	}
	for _, f := range typ.Fields {
		if code := fieldErrorAsDefined(f); code != api.OK {
			return code
		}
	}
	if typ.Len > 0 && int64(typ.Len)*int64(ruleOf(typ.Fields[0]).width) > api.MaxObject {
		return api.ErrBig
	}
	if _, size := placesAsDefined(typ); size > api.MaxObject {
		return api.ErrBig
	}
	return api.OK
}

// outside returns numbers that are no index of n fields or elements.
func outside(n int) []int {
	return []int{math.MinInt, math.MinInt + 1, -n - 1, -n, -1, n, n + 1, n + api.MaxElements, 1 << 32, 1<<32 + 1, math.MaxInt - 1, math.MaxInt}
}

// checkType checks all functions for a type without an error.
func checkType(t *testing.T, typ api.Type, places []api.Place, size int) {
	t.Helper()
	if code := Check(typ); code != api.OK {
		t.Errorf("Check of %v: got %d", typ, code)
	}
	if n := Count(typ); n != len(places) {
		t.Errorf("Count of %v: got %d, want %d", typ, n, len(places))
	}
	if n, code := Size(typ); n != size || code != api.OK {
		t.Errorf("Size of %v: got %d and %d, want %d", typ, n, code, size)
	}
	for i, want := range places {
		if got, code := Place(typ, i); got != want || code != api.OK {
			t.Errorf("Place of %d in %v: got %v and %d, want %v", i, typ, got, code, want)
		}
	}
	for _, i := range outside(max(1, len(places))) {
		if got, code := Place(typ, i); got != (api.Place{}) || code != api.ErrAbsent {
			t.Errorf("Place of %d in %v: got %v and %d", i, typ, got, code)
		}
	}
}

// checkAsDefined checks all functions for any type.
func checkAsDefined(t *testing.T, typ api.Type) {
	t.Helper()
	if code := errorAsDefined(typ); code != api.OK {
		checkError(t, typ, code)
		return
	}
	places, size := placesAsDefined(typ)
	checkType(t, typ, places, size)
}

// checkError checks all functions for a type with an error.
func checkError(t *testing.T, typ api.Type, want api.Errno) {
	t.Helper()
	if code := Check(typ); code != want {
		t.Errorf("Check of %v: got %d, want %d", typ, code, want)
	}
	if n := Count(typ); n != 0 {
		t.Errorf("Count of %v: got %d", typ, n)
	}
	if n, code := Size(typ); n != 0 || code != want {
		t.Errorf("Size of %v: got %d and %d, want %d", typ, n, code, want)
	}
	for _, i := range []int{math.MinInt, -1, 0, 1, len(typ.Fields), typ.Len, math.MaxInt} {
		if got, code := Place(typ, i); got != (api.Place{}) || code != want {
			t.Errorf("Place of %d in %v: got %v and %d, want %d", i, typ, got, code, want)
		}
	}
}

// The example of the document.
func TestExample(t *testing.T) {
	typ := record(number(api.U8), number(api.U32), number(api.U16))
	checkType(t, typ, []api.Place{at(0, 1, api.U8), at(4, 4, api.U32), at(8, 2, api.U16)}, 12)
}

// P8.2, P8.3: the width and the alignment of each kind, alone, after a byte, and before one.
func TestKinds(t *testing.T) {
	for _, c := range []struct {
		f                api.Field
		width, alignment int
	}{
		{number(api.U8), 1, 1},
		{number(api.U16), 2, 2},
		{number(api.U32), 4, 4},
		{number(api.U64), 8, 8},
		{number(api.Word), 8, 8},
		{text(1), 1, 1},
		{text(8), 8, 1},
		{text(13), 13, 1},
	} {
		kind := c.f.Kind
		small := number(api.U8)
		checkType(t, record(c.f), []api.Place{at(0, c.width, kind)}, c.width)
		checkType(t, record(small, c.f), []api.Place{at(0, 1, api.U8), at(c.alignment, c.width, kind)}, c.alignment+c.width)
		checkType(t, record(c.f, small), []api.Place{at(0, c.width, kind), at(c.width, 1, api.U8)}, c.width+c.alignment)
		checkType(t, array(2, c.f), []api.Place{at(0, c.width, kind), at(c.width, c.width, kind)}, 2*c.width)
	}
}

// P8.2, P8.3: gaps before fields and at the end.
func TestRecords(t *testing.T) {
	for _, c := range []struct {
		typ    api.Type
		places []api.Place
		size   int
	}{
		{record(text(3)), []api.Place{at(0, 3, api.String)}, 3},
		{record(text(3), text(4)), []api.Place{at(0, 3, api.String), at(3, 4, api.String)}, 7},
		{record(text(3), number(api.U16)), []api.Place{at(0, 3, api.String), at(4, 2, api.U16)}, 6},
		{record(number(api.U16), text(3)), []api.Place{at(0, 2, api.U16), at(2, 3, api.String)}, 6},
		{record(number(api.U32), number(api.U8)), []api.Place{at(0, 4, api.U32), at(4, 1, api.U8)}, 8},
		{record(number(api.U8), number(api.Word), number(api.U8)), []api.Place{at(0, 1, api.U8), at(8, 8, api.Word), at(16, 1, api.U8)}, 24},
		{record(number(api.U64), number(api.U32), number(api.U16), number(api.U8)), []api.Place{at(0, 8, api.U64), at(8, 4, api.U32), at(12, 2, api.U16), at(14, 1, api.U8)}, 16},
		{record(number(api.U8), number(api.U16), number(api.U32), number(api.U64)), []api.Place{at(0, 1, api.U8), at(2, 2, api.U16), at(4, 4, api.U32), at(8, 8, api.U64)}, 16},
		{record(number(api.U32), number(api.U64), text(1)), []api.Place{at(0, 4, api.U32), at(8, 8, api.U64), at(16, 1, api.String)}, 24},
	} {
		checkType(t, c.typ, c.places, c.size)
	}
}

// P8.1 to P8.3: all records of up to five of these fields.
func TestAllSmallRecords(t *testing.T) {
	fields := []api.Field{number(api.U8), number(api.U16), number(api.U32), number(api.U64), number(api.Word), text(1), text(3), text(8)}
	lists := [][]api.Field{nil}
	for range 5 {
		var longer [][]api.Field
		for _, list := range lists {
			for _, f := range fields {
				longer = append(longer, append(slices.Clone(list), f))
			}
		}
		for _, list := range longer {
			places, size := placesAsDefined(record(list...))
			checkType(t, record(list...), places, size)
		}
		lists = longer
	}
}

// P8.2, P8.3: arrays of all kinds and of all lengths up to 20, with no gaps and nothing at the end.
func TestArrays(t *testing.T) {
	fields := []api.Field{number(api.U8), number(api.U16), number(api.U32), number(api.U64), number(api.Word), text(1), text(3), text(8), text(1000)}
	for _, f := range fields {
		width := ruleOf(f).width
		for n := 1; n <= 20; n++ {
			var places []api.Place
			for i := range n {
				places = append(places, at(i*width, width, f.Kind))
			}
			checkType(t, array(n, f), places, n*width)
		}
	}
}

// P8.1 to P8.3: the longest array of each width, and one that is longer by an element.
func TestLongestArrays(t *testing.T) {
	for _, c := range []struct {
		f api.Field
		n int
	}{
		{number(api.U8), api.MaxElements},
		{number(api.U16), api.MaxObject / 2},
		{number(api.U32), api.MaxObject / 4},
		{number(api.U64), api.MaxObject / 8},
		{number(api.Word), api.MaxObject / 8},
		{text(1), api.MaxElements},
		{text(3), api.MaxObject / 3},
		{text(api.MaxObject / 2), 2},
		{text(api.MaxObject/2 + 1), 1},
		{text(api.MaxObject), 1},
	} {
		places, size := placesAsDefined(array(c.n, c.f))
		checkType(t, array(c.n, c.f), places, size)
		checkError(t, array(c.n+1, c.f), api.ErrBig)
	}
}

// P8.1: arrays of strings of all widths, around the greatest size.
func TestArrayErrBig(t *testing.T) {
	for width := 1; width <= api.MaxObject; width++ {
		n := api.MaxObject / width
		if size, code := Size(array(n, text(width))); size != n*width || code != api.OK {
			t.Errorf("an array of %d strings of %d bytes: got the size %d and %d", n, width, size, code)
		}
		if code := Check(array(n+1, text(width))); code != api.ErrBig {
			t.Errorf("an array of %d strings of %d bytes: got %d", n+1, width, code)
		}
		if code := Check(array(api.MaxElements, text(width))); (code != api.OK) != (width > 1) {
			t.Errorf("an array of MaxElements strings of %d bytes: got %d", width, code)
		}
	}
}

// P8.1: records around the greatest size.
func TestRecordErrBig(t *testing.T) {
	const all = api.MaxObject
	for _, c := range []struct {
		typ  api.Type
		size int // 0 if there is an error
	}{
		{record(text(all - 1)), all - 1},
		{record(text(all)), all},
		{record(text(all), text(1)), 0},
		{record(text(1), text(all)), 0},
		{record(text(all-1), text(1)), all},
		{record(text(all-1), text(2)), 0},
		{record(text(all), number(api.U8)), 0},
		{record(text(all-1), number(api.U8)), all},
		{record(text(all-1), number(api.U16)), 0},
		{record(text(all-2), number(api.U16)), all},
		{record(text(all-3), number(api.U16)), all},
		{record(text(all-4), number(api.U16)), all - 2},
		{record(text(all-7), number(api.Word)), 0},
		{record(text(all-8), number(api.Word)), all},
		{record(number(api.Word), text(all-7)), 0},
		{record(number(api.Word), text(all-8)), all},
		{record(number(api.Word), text(all-9)), all},
		{record(number(api.Word), text(all-15)), all},
		{record(number(api.Word), text(all-16)), all - 8},
		{record(slices.Repeat([]api.Field{text(all / api.MaxFields)}, api.MaxFields)...), all},
		{record(slices.Repeat([]api.Field{text(all/api.MaxFields + 1)}, api.MaxFields)...), 0},
		{record(slices.Repeat([]api.Field{text(all)}, api.MaxFields)...), 0},
	} {
		if c.size == 0 {
			checkError(t, c.typ, api.ErrBig)
			continue
		}
		places, _ := placesAsDefined(c.typ)
		checkType(t, c.typ, places, c.size)
	}
}

// P8.1: each error alone.
func TestErrors(t *testing.T) {
	u8 := number(api.U8)
	for _, n := range []int{math.MinInt, math.MinInt + 1, -api.MaxElements, -2, -1} {
		checkError(t, array(n, u8), api.ErrForm)
	}
	for _, n := range []int{api.MaxElements + 1, api.MaxElements + 2, 1 << 32, 1<<32 + 1, math.MaxInt - 1, math.MaxInt} {
		checkError(t, array(n, u8), api.ErrBig)
	}
	checkError(t, api.Type{}, api.ErrForm)
	checkError(t, api.Type{Fields: []api.Field{}}, api.ErrForm)
	for _, n := range []int{1, 2, api.MaxElements} {
		checkError(t, array(n), api.ErrForm)
		checkError(t, array(n, u8, u8), api.ErrForm)
		checkError(t, array(n, u8, u8, u8), api.ErrForm)
	}
	for n := 1; n <= api.MaxFields; n++ {
		places, size := placesAsDefined(record(slices.Repeat([]api.Field{u8}, n)...))
		checkType(t, record(slices.Repeat([]api.Field{u8}, n)...), places, size)
	}
	for _, n := range []int{api.MaxFields + 1, api.MaxFields + 2, 1000} {
		checkError(t, record(slices.Repeat([]api.Field{u8}, n)...), api.ErrBig)
	}
}

// P8.1: each error of a field, in a record and in an array.
func TestFieldErrors(t *testing.T) {
	var wrong []struct {
		f    api.Field
		want api.Errno
	}
	add := func(want api.Errno, kind int, counts ...int) {
		for _, count := range counts {
			wrong = append(wrong, struct {
				f    api.Field
				want api.Errno
			}{field(kind, count), want})
		}
	}
	for _, kind := range []int{math.MinInt, -6, -1, 0, 7, 8, 255, 257, 1<<32 + 1, math.MaxInt} {
		add(api.ErrKind, kind, math.MinInt, -1, 0, 1, api.MaxObject, api.MaxObject+1, math.MaxInt)
	}
	for _, kind := range []int{api.U8, api.U16, api.U32, api.U64, api.Word} {
		add(api.ErrForm, kind, math.MinInt, -1, 1, 8, api.MaxObject, api.MaxObject+1, math.MaxInt)
	}
	add(api.ErrForm, api.String, math.MinInt, -api.MaxObject, -1, 0)
	add(api.ErrBig, api.String, api.MaxObject+1, api.MaxObject+2, 1<<32, 1<<32+1, math.MaxInt-1, math.MaxInt)
	for _, c := range wrong {
		checkError(t, record(c.f), c.want)
		checkError(t, record(number(api.U8), text(5), c.f), c.want)
		checkError(t, array(1, c.f), c.want)
		checkError(t, array(api.MaxElements, c.f), c.want)
	}
}

// P8.1: the order of the errors of types that have two of them.
func TestErrorOrder(t *testing.T) {
	const all = api.MaxObject
	u8, unknown, empty, big := number(api.U8), number(7), text(0), text(all+1)
	many := func(f api.Field) []api.Field { return slices.Repeat([]api.Field{f}, api.MaxFields+1) }
	for _, c := range []struct {
		typ  api.Type
		want api.Errno
	}{
		{array(-1, many(u8)...), api.ErrForm},
		{array(-1, unknown), api.ErrForm},
		{array(-1, big), api.ErrForm},
		{array(api.MaxElements + 1), api.ErrBig},
		{array(api.MaxElements+1, u8, u8), api.ErrBig},
		{array(api.MaxElements+1, unknown), api.ErrBig},
		{array(api.MaxElements+1, empty), api.ErrBig},
		{array(1, many(u8)...), api.ErrForm},
		{array(1, unknown, unknown), api.ErrForm},
		{array(1, big, big), api.ErrForm},
		{record(many(unknown)...), api.ErrBig},
		{record(many(empty)...), api.ErrBig},
		{record(unknown, empty), api.ErrKind},
		{record(unknown, big), api.ErrKind},
		{record(empty, unknown), api.ErrForm},
		{record(empty, big), api.ErrForm},
		{record(big, unknown), api.ErrBig},
		{record(big, empty), api.ErrBig},
		{record(text(all), text(all), unknown), api.ErrKind},
		{record(text(all), u8, empty), api.ErrForm},
		{record(text(all), u8, field(api.U8, 1)), api.ErrForm},
		{array(2, unknown), api.ErrKind},
		{array(api.MaxElements, field(api.U64, 8)), api.ErrForm},
	} {
		checkError(t, c.typ, c.want)
	}
}

// P8.1 to P8.3: all types with these lengths and up to two fields with these kinds and counts, many of which have several errors.
func TestErrorsAsDefined(t *testing.T) {
	var fields []api.Field
	for kind := -1; kind <= 8; kind++ {
		for _, count := range []int{math.MinInt, -1, 0, 1, 7, api.MaxObject - 8, api.MaxObject, api.MaxObject + 1, math.MaxInt} {
			fields = append(fields, field(kind, count))
		}
	}
	lists := [][]api.Field{nil}
	for _, f := range fields {
		lists = append(lists, []api.Field{f})
		for _, g := range fields {
			lists = append(lists, []api.Field{f, g})
		}
	}
	for _, list := range lists {
		for _, n := range []int{math.MinInt, -1, 0, 1, 2, api.MaxElements + 1, math.MaxInt} {
			checkAsDefined(t, array(n, list...))
		}
	}
}

// randomType returns a type that often has no error, and whose size is sometimes near the greatest one.
func randomType(r *rand.Rand) api.Type {
	randomField := func() api.Field {
		if kind := 1 + r.Intn(6); kind != api.String {
			return number(kind)
		}
		return text(1 + r.Intn(1<<(1+r.Intn(14))))
	}
	if r.Intn(3) == 0 {
		return array(1+r.Intn(1<<(1+r.Intn(8))), randomField())
	}
	var fields []api.Field
	for range 1 + r.Intn(api.MaxFields) {
		fields = append(fields, randomField())
	}
	return record(fields...)
}

// P8.4, and P8.1 to P8.3 once more.
func TestRandomTypes(t *testing.T) {
	r := rand.New(rand.NewSource(8))
	for range 20000 {
		typ := randomType(r)
		checkAsDefined(t, typ)
		checkProperties(t, typ)
	}
}

// checkProperties checks P8.4 by what the functions return.
func checkProperties(t *testing.T, typ api.Type) {
	t.Helper()
	size, code := Size(typ)
	if code == api.OK && size < 1 {
		t.Errorf("Size of %v: got %d", typ, size)
	}
	end := 0
	for i := range Count(typ) {
		f := typ.Fields[min(i, len(typ.Fields)-1)]
		p, code := Place(typ, i)
		if code != api.OK || p.Off < end || p.Len < 1 || p.Off%ruleOf(f).alignment != 0 {
			t.Errorf("Place of %d in %v: got %v and %d after the end %d", i, typ, p, code, end)
		}
		end = p.Off + p.Len
	}
	if end > size {
		t.Errorf("the places of %v end at %d, and the size is %d", typ, end, size)
	}
}

// P8.4: the types with the most places, and the least and the greatest sizes.
func TestProperties(t *testing.T) {
	for _, typ := range []api.Type{
		record(number(api.U8)),
		record(text(1)),
		record(text(api.MaxObject)),
		array(1, number(api.U8)),
		array(api.MaxElements, number(api.U8)),
		array(api.MaxElements, text(1)),
		array(api.MaxObject/8, number(api.Word)),
		record(slices.Repeat([]api.Field{number(api.U8), number(api.Word)}, api.MaxFields/2)...),
		record(slices.Repeat([]api.Field{number(api.U32), text(1)}, api.MaxFields/2)...),
	} {
		if code := Check(typ); code != api.OK {
			t.Errorf("Check of %v: got %d", typ, code)
		}
		checkProperties(t, typ)
	}
}

// General rule 3: the fields are the caller's, before and after the calls, and so is what lies behind them in memory.
func TestFieldsAreNotChanged(t *testing.T) {
	memory := []api.Field{number(api.U8), number(api.U32), text(3), number(9)}
	before := slices.Clone(memory)
	typ := api.Type{Fields: memory[:3]}
	places, size := placesAsDefined(typ)
	checkType(t, typ, places, size)
	checkError(t, api.Type{Fields: memory}, api.ErrKind)
	checkError(t, api.Type{Len: 2, Fields: memory}, api.ErrForm)
	if !slices.Equal(memory, before) {
		t.Errorf("got %v, want %v", memory, before)
	}
	memory[1] = number(api.U16)
	checkType(t, typ, []api.Place{at(0, 1, api.U8), at(2, 2, api.U16), at(4, 3, api.String)}, 8)
}
