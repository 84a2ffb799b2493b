package typecode

import (
	"bytes"
	"encoding/binary"
	"math"
	"slices"
	"testing"

	"pluginhost/api"
	"pluginhost/layout"
	"pluginhost/wire"
)

func text(count int) api.Field { return api.Field{Kind: api.String, Count: count} }

func number(kind int) api.Field { return api.Field{Kind: kind} }

func record(fields ...api.Field) api.Type { return api.Type{Fields: fields} }

func array(n int, fields ...api.Field) api.Type { return api.Type{Len: n, Fields: fields} }

func sameType(x, y api.Type) bool { return x.Len == y.Len && slices.Equal(x.Fields, y.Fields) }

// put returns the encodings of numbers, written by the standard library.
func put(numbers ...uint64) []byte {
	var b []byte
	for _, n := range numbers {
		b = binary.AppendUvarint(b, n)
	}
	return b
}

// encodingAsDefined returns the encoding of a type without an error.
func encodingAsDefined(typ api.Type) []byte {
	numbers := []uint64{uint64(typ.Len), uint64(len(typ.Fields))}
	for _, f := range typ.Fields {
		numbers = append(numbers, uint64(f.Kind), uint64(f.Count))
	}
	return put(numbers...)
}

// decodedAsDefined returns what P9.2 says: it collects the numbers, and finds out from the second one how many there are.
func decodedAsDefined(b []byte) (api.Type, int, api.Errno) {
	var numbers []int
	used, wanted := 0, 2
	for len(numbers) < wanted {
		n, size, code := wire.Uint(b[used:])
		if code != api.OK {
			return api.Type{}, 0, code
		}
		if n > 65536 {
			return api.Type{}, 0, api.ErrBig
		}
		used += size
		numbers = append(numbers, int(n))
		if len(numbers) == 2 && n > 32 {
			return api.Type{}, 0, api.ErrBig
		}
		if len(numbers) == 2 {
			wanted += 2 * int(n)
		}
	}
	typ := api.Type{Len: numbers[0]}
	for i := 2; i < wanted; i += 2 {
		typ.Fields = append(typ.Fields, api.Field{Kind: numbers[i], Count: numbers[i+1]})
	}
	if code := layout.Check(typ); code != api.OK {
		return api.Type{}, 0, code
	}
	return typ, used, api.OK
}

func encodeOK(t *testing.T, typ api.Type, want []byte) {
	t.Helper()
	if b, code := Encode(typ); !bytes.Equal(b, want) || code != api.OK {
		t.Errorf("Encode of %v: got %v and %d, want %v", typ, b, code, want)
	}
}

func encodeFails(t *testing.T, typ api.Type, want api.Errno) {
	t.Helper()
	if b, code := Encode(typ); len(b) != 0 || code != want {
		t.Errorf("Encode of %v: got %v and %d, want %d", typ, b, code, want)
	}
}

func decodeOK(t *testing.T, b []byte, want api.Type, size int) {
	t.Helper()
	if typ, n, code := Decode(b); !sameType(typ, want) || n != size || code != api.OK {
		t.Errorf("Decode of %v: got %v, %d and %d, want %v and %d", b, typ, n, code, want, size)
	}
}

func decodeFails(t *testing.T, b []byte, want api.Errno) {
	t.Helper()
	if typ, n, code := Decode(b); !sameType(typ, api.Type{}) || n != 0 || code != want {
		t.Errorf("Decode of %v: got %v, %d and %d, want %d", b, typ, n, code, want)
	}
}

// checkDecode checks Decode by its definition, and that what it has read is the encoding of what it returns.
func checkDecode(t *testing.T, b []byte) {
	t.Helper()
	typ, size, code := decodedAsDefined(b)
	if code != api.OK {
		decodeFails(t, b, code)
		return
	}
	decodeOK(t, b, typ, size)
	got, n, _ := Decode(b)
	encodeOK(t, got, b[:min(n, len(b))])
}

// checkEncode checks Encode for any type, and for one without an error that Decode inverts it, whatever follows, and reads nothing from less.
func checkEncode(t *testing.T, typ api.Type) {
	t.Helper()
	if code := layout.Check(typ); code != api.OK {
		encodeFails(t, typ, code)
		return
	}
	want := encodingAsDefined(typ)
	encodeOK(t, typ, want)
	for _, rest := range [][]byte{nil, {0}, {1, 0}, {128}, {128, 0}, want, bytes.Repeat([]byte{255}, 12)} {
		decodeOK(t, slices.Concat(want, rest), typ, len(want))
	}
	for end := range want {
		decodeFails(t, want[:end], api.ErrTrunc)
	}
}

// The example of the document.
func TestExample(t *testing.T) {
	typ := record(number(api.U8), number(api.U32), number(api.U16))
	b := []byte{0, 3, 1, 0, 3, 0, 2, 0}
	encodeOK(t, typ, b)
	decodeOK(t, b, typ, 8)
}

// P9.1, P9.2
func TestTypes(t *testing.T) {
	many := record(slices.Repeat([]api.Field{text(2048)}, api.MaxFields)...)
	for _, c := range []struct {
		typ  api.Type
		want []byte
	}{
		{record(number(api.U8)), []byte{0, 1, 1, 0}},
		{record(number(api.U16)), []byte{0, 1, 2, 0}},
		{record(number(api.U32)), []byte{0, 1, 3, 0}},
		{record(number(api.U64)), []byte{0, 1, 4, 0}},
		{record(number(api.Word)), []byte{0, 1, 5, 0}},
		{record(text(1)), []byte{0, 1, 6, 1}},
		{record(text(127)), []byte{0, 1, 6, 127}},
		{record(text(128)), []byte{0, 1, 6, 128, 1}},
		{record(text(300), number(api.Word)), []byte{0, 2, 6, 172, 2, 5, 0}},
		{record(number(api.Word), text(300)), []byte{0, 2, 5, 0, 6, 172, 2}},
		{record(text(api.MaxObject)), []byte{0, 1, 6, 128, 128, 4}},
		{array(1, number(api.U8)), []byte{1, 1, 1, 0}},
		{array(1, text(api.MaxObject)), []byte{1, 1, 6, 128, 128, 4}},
		{array(2, text(api.MaxObject/2)), []byte{2, 1, 6, 128, 128, 2}},
		{array(127, number(api.U16)), []byte{127, 1, 2, 0}},
		{array(128, number(api.U16)), []byte{128, 1, 1, 2, 0}},
		{array(api.MaxObject/8, number(api.Word)), []byte{128, 64, 1, 5, 0}},
		{array(api.MaxElements, number(api.U8)), []byte{128, 128, 4, 1, 1, 0}},
		{array(api.MaxElements, text(1)), []byte{128, 128, 4, 1, 6, 1}},
		{many, append([]byte{0, 32}, bytes.Repeat([]byte{6, 128, 16}, 32)...)},
	} {
		encodeOK(t, c.typ, c.want)
		checkEncode(t, c.typ)
		checkDecode(t, c.want)
	}
}

// P9.1: each error of layout.Check.
func TestEncodeErrors(t *testing.T) {
	u8, unknown := number(api.U8), number(7)
	many := func(n int, f api.Field) []api.Field { return slices.Repeat([]api.Field{f}, n) }
	for _, c := range []struct {
		typ  api.Type
		want api.Errno
	}{
		{api.Type{}, api.ErrForm},
		{api.Type{Fields: []api.Field{}}, api.ErrForm},
		{array(-1, u8), api.ErrForm},
		{array(math.MinInt, u8), api.ErrForm},
		{array(1), api.ErrForm},
		{array(2, u8, u8), api.ErrForm},
		{array(-1, unknown), api.ErrForm},
		{array(api.MaxElements+1, u8), api.ErrBig},
		{array(api.MaxElements+1, unknown), api.ErrBig},
		{array(math.MaxInt, u8), api.ErrBig},
		{record(many(api.MaxFields+1, u8)...), api.ErrBig},
		{record(many(api.MaxFields+1, unknown)...), api.ErrBig},
		{record(number(0)), api.ErrKind},
		{record(number(-1)), api.ErrKind},
		{record(u8, unknown), api.ErrKind},
		{record(number(1<<32 + 1)), api.ErrKind},
		{array(2, unknown), api.ErrKind},
		{record(u8, text(0)), api.ErrForm},
		{record(text(-1)), api.ErrForm},
		{record(api.Field{Kind: api.U8, Count: 1}), api.ErrForm},
		{record(api.Field{Kind: api.Word, Count: -8}), api.ErrForm},
		{record(text(api.MaxObject + 1)), api.ErrBig},
		{record(text(math.MaxInt)), api.ErrBig},
		{record(text(api.MaxObject), u8), api.ErrBig},
		{record(many(api.MaxFields, text(2049))...), api.ErrBig},
		{array(api.MaxObject/8+1, number(api.Word)), api.ErrBig},
		{array(api.MaxElements, number(api.U16)), api.ErrBig},
	} {
		encodeFails(t, c.typ, c.want)
	}
}

// P9.1, P9.3: all types with these lengths and up to two fields with these kinds and counts.
func TestAllTypes(t *testing.T) {
	var fields []api.Field
	for _, kind := range []int{math.MinInt, -1, 0, 1, 2, 3, 4, 5, 6, 7, 1<<32 + 1, math.MaxInt} {
		for _, count := range []int{math.MinInt, -1, 0, 1, 127, 128, api.MaxObject - 1, api.MaxObject, api.MaxObject + 1, math.MaxInt} {
			fields = append(fields, api.Field{Kind: kind, Count: count})
		}
	}
	lists := [][]api.Field{nil}
	for _, f := range fields {
		lists = append(lists, []api.Field{f})
		for _, g := range fields {
			lists = append(lists, []api.Field{f, g})
		}
	}
	for _, list := range lists {
		for _, n := range []int{math.MinInt, -1, 0, 1, 2, 127, 128, api.MaxElements, api.MaxElements + 1, math.MaxInt} {
			checkEncode(t, array(n, list...))
		}
	}
}

// P9.1, P9.3: all records of three of these fields, and records of every number of fields.
func TestRecords(t *testing.T) {
	fields := []api.Field{number(api.U8), number(api.U16), number(api.U32), number(api.U64), number(api.Word), text(1), text(127), text(128), text(16383), text(16384), text(api.MaxObject)}
	for _, f := range fields {
		for n := range api.MaxFields + 3 {
			checkEncode(t, record(slices.Repeat([]api.Field{f}, n)...))
		}
		for _, g := range fields {
			for _, h := range fields {
				checkEncode(t, record(f, g, h))
			}
		}
	}
}

// P9.1, P9.2: each length of an array and of a string.
func TestNumbers(t *testing.T) {
	for n := 1; n <= api.MaxElements; n++ {
		for _, typ := range []api.Type{array(n, number(api.U8)), record(text(n))} {
			b := encodingAsDefined(typ)
			encodeOK(t, typ, b)
			decodeOK(t, b, typ, len(b))
		}
	}
}

// P9.2: the errors of the numbers, at each number.
func TestDecodeNumberErrors(t *testing.T) {
	over := bytes.Repeat([]byte{255}, 10)
	for _, before := range [][]byte{{}, {0}, {0, 1}, {0, 1, 6}, {0, 2, 6, 3}, {0, 2, 6, 3, 1}, {1}, {1, 1}, {1, 1, 6}} {
		for _, c := range []struct {
			b    []byte
			want api.Errno
		}{
			{nil, api.ErrTrunc},
			{[]byte{128}, api.ErrTrunc},
			{[]byte{128, 128}, api.ErrTrunc},
			{over[:9], api.ErrTrunc},
			{over, api.ErrForm},
			{append(over[:9:9], 2), api.ErrForm},
			{[]byte{128, 0}, api.ErrForm},
			{[]byte{129, 0}, api.ErrForm},
			{[]byte{128, 128, 0, 1, 0}, api.ErrForm},
			{put(api.MaxElements + 1), api.ErrBig},
			{put(api.MaxElements+1, 0, 0, 0, 0), api.ErrBig},
			{put(1 << 32), api.ErrBig},
			{put(1<<32 + 1), api.ErrBig},
			{put(math.MaxInt64), api.ErrBig},
			{put(1 << 63), api.ErrBig},
			{put(1<<63 + 1), api.ErrBig},
			{put(math.MaxUint64), api.ErrBig},
		} {
			decodeFails(t, slices.Concat(before, c.b), c.want)
		}
	}
	decodeFails(t, []byte{}, api.ErrTrunc)
}

// P9.2: the bound of the number of fields applies before anything else is read.
func TestDecodeFieldCount(t *testing.T) {
	for _, length := range []uint64{0, 1, 2, api.MaxElements} {
		for _, n := range []uint64{api.MaxFields + 1, 127, 128, api.MaxElements} {
			head := put(length, n)
			fields := bytes.Repeat([]byte{1, 0}, int(n))
			decodeFails(t, head, api.ErrBig)
			decodeFails(t, append(slices.Clone(head), 128, 0), api.ErrBig)
			decodeFails(t, append(slices.Clone(head), 7, 0), api.ErrBig)
			decodeFails(t, append(slices.Clone(head), fields...), api.ErrBig)
		}
	}
	decodeFails(t, []byte{0, api.MaxFields}, api.ErrTrunc)
	most := append([]byte{0, api.MaxFields}, bytes.Repeat([]byte{1, 0}, api.MaxFields)...)
	decodeOK(t, most, record(slices.Repeat([]api.Field{number(api.U8)}, api.MaxFields)...), len(most))
	decodeFails(t, most[:len(most)-1], api.ErrTrunc)
}

// P9.2: errors of layout.Check, and the order of two errors.
func TestDecodeErrors(t *testing.T) {
	for _, c := range []struct {
		b    []byte
		want api.Errno
	}{
		{[]byte{0, 0}, api.ErrForm},
		{[]byte{0, 0, 1, 0}, api.ErrForm},
		{[]byte{5, 0}, api.ErrForm},
		{[]byte{5, 0, 1, 0}, api.ErrForm},
		{[]byte{5, 2, 1, 0, 1, 0}, api.ErrForm},
		{[]byte{5, 2, 7, 0, 7, 0}, api.ErrForm},
		{[]byte{0, 1, 0, 0}, api.ErrKind},
		{[]byte{0, 1, 7, 0}, api.ErrKind},
		{[]byte{0, 1, 7, 5}, api.ErrKind},
		{put(0, 1, 257, 0), api.ErrKind},
		{put(0, 1, api.MaxElements, 0), api.ErrKind},
		{[]byte{2, 1, 7, 0}, api.ErrKind},
		{[]byte{0, 2, 1, 0, 7, 0}, api.ErrKind},
		{[]byte{0, 2, 7, 0, 6, 0}, api.ErrKind},
		{[]byte{0, 2, 6, 0, 7, 0}, api.ErrForm},
		{[]byte{0, 1, 6, 0}, api.ErrForm},
		{[]byte{0, 1, 1, 1}, api.ErrForm},
		{put(0, 1, api.U8, api.MaxElements), api.ErrForm},
		{put(0, 2, api.String, api.MaxObject, api.U8, 0), api.ErrBig},
		{put(0, 2, api.String, api.MaxObject, 7, 0), api.ErrKind},
		{put(api.MaxElements, 1, api.U16, 0), api.ErrBig},
		{put(2, 1, api.String, api.MaxObject), api.ErrBig},
		// The numbers come before layout.Check, and the earlier one before the later one.
		{[]byte{5, 2, 1, 0, 1}, api.ErrTrunc},
		{[]byte{0, 2, 7, 0, 1}, api.ErrTrunc},
		{[]byte{0, 2, 7, 0, 128, 0}, api.ErrForm},
		{[]byte{0, 2, 7, 0, 1, 128, 0}, api.ErrForm},
		{put(0, 2, 7, 0, 1, api.MaxElements+1), api.ErrBig},
		{put(0, 1, api.U8, api.MaxElements+1), api.ErrBig},
		{put(0, 1, api.MaxElements+1), api.ErrBig},
		{append(put(api.MaxElements+1), 128, 0), api.ErrBig},
		{append([]byte{128, 0}, put(api.MaxElements+1)...), api.ErrForm},
		{append(put(0, 2, api.MaxElements+1), 128, 0), api.ErrBig},
		{append([]byte{0, 2, 128, 0}, put(api.MaxElements+1)...), api.ErrForm},
	} {
		decodeFails(t, c.b, c.want)
	}
}

// P9.2, P9.3: all texts of up to seven of these bytes.
func TestShortTexts(t *testing.T) {
	var check func(b []byte, more int)
	check = func(b []byte, more int) {
		checkDecode(t, b)
		if more == 0 {
			return
		}
		for _, c := range []byte{0, 1, 2, 6, 7, 33, 128} {
			check(append(b, c), more-1)
		}
	}
	check(make([]byte, 0, 7), 7)
}

// P9.2, P9.3: all texts of up to four of these numbers and wrong numbers.
func TestNumberTexts(t *testing.T) {
	parts := [][]byte{{128, 0}, {128}, {255, 255}, bytes.Repeat([]byte{255}, 10)}
	for _, n := range []uint64{0, 1, 2, 5, 6, 7, 32, 33, 128, api.MaxElements - 1, api.MaxElements, api.MaxElements + 1, 1 << 32, 1<<32 + 1, 1<<63 + 1, math.MaxUint64} {
		parts = append(parts, put(n))
	}
	var check func(b []byte, more int)
	check = func(b []byte, more int) {
		checkDecode(t, b)
		if more == 0 {
			return
		}
		for _, part := range parts {
			check(slices.Concat(b, part), more-1)
		}
	}
	check(nil, 4)
}

// P9.3: different types have different encodings, and none is the beginning of another one, since Decode would invert only one of them.
func TestEncodingsDiffer(t *testing.T) {
	var types []api.Type
	fields := []api.Field{number(api.U8), number(api.Word), text(1), text(6), text(128)}
	for _, f := range fields {
		types = append(types, record(f), array(1, f), array(2, f), array(128, f))
		for _, g := range fields {
			types = append(types, record(f, g))
		}
	}
	for i, x := range types {
		for j, y := range types {
			b, _ := Encode(x)
			c, _ := Encode(y)
			if i != j && bytes.HasPrefix(b, c) {
				t.Errorf("the encodings of %v and %v are %v and %v", x, y, b, c)
			}
		}
	}
}

// General rule 3: the arguments stay as they are, together with what lies behind them in memory.
func TestArgumentsAreNotChanged(t *testing.T) {
	fields := []api.Field{number(api.U8), text(300), number(7)}
	before := slices.Clone(fields)
	encodeOK(t, api.Type{Fields: fields[:2]}, []byte{0, 2, 1, 0, 6, 172, 2})
	encodeFails(t, api.Type{Fields: fields}, api.ErrKind)
	if !slices.Equal(fields, before) {
		t.Errorf("got the fields %v, want %v", fields, before)
	}
	b := []byte{0, 2, 1, 0, 6, 172, 2, 9, 9}
	copied := slices.Clone(b)
	decodeOK(t, b[:7], record(fields[:2]...), 7)
	decodeFails(t, b[:6], api.ErrTrunc)
	if !bytes.Equal(b, copied) {
		t.Errorf("got the bytes %v, want %v", b, copied)
	}
}

// General rule 3: results are new memory.
func TestResultsAreNew(t *testing.T) {
	typ := record(number(api.U8), number(api.Word))
	b, _ := Encode(typ)
	c, _ := Encode(typ)
	x, _, _ := Decode(b)
	y, _, _ := Decode(b)
	if len(b) != 6 || len(x.Fields) != 2 {
		t.Fatalf("got %v and %v", b, x)
	}
	b[2], x.Fields[1] = 9, number(api.U16)
	if want := []byte{0, 2, 1, 0, 5, 0}; !bytes.Equal(c, want) {
		t.Errorf("a second encoding changed: got %v, want %v", c, want)
	}
	if !sameType(y, record(number(api.U8), number(api.Word))) || !sameType(typ, y) {
		t.Errorf("a second type changed: got %v and %v", y, typ)
	}
}

func FuzzDecode(f *testing.F) {
	for _, b := range [][]byte{nil, {0, 3, 1, 0, 3, 0, 2, 0}, {172, 2, 1, 6, 200, 1}, {0, 33}, {128, 128, 4, 1, 1, 0}, {0, 1, 129, 128, 4}} {
		f.Add(b)
	}
	f.Fuzz(func(t *testing.T, b []byte) { checkDecode(t, b) })
}
