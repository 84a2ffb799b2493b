package wire

import (
	"bytes"
	"encoding/binary"
	"math"
	"slices"
	"testing"

	"pluginhost/api"
)

// numbers returns numbers of all sizes: each bit alone, the numbers next to it, and a spread of mixed bits.
func numbers() []uint64 {
	list := []uint64{0, 300, math.MaxUint64}
	for bit := range 64 {
		list = append(list, 1<<bit-1, 1<<bit, 1<<bit+1)
	}
	mixed := uint64(1)
	for i := range 1000 {
		mixed = mixed*6364136223846793005 + 1442695040888963407
		list = append(list, mixed>>(i%64))
	}
	return list
}

// shortTexts returns all byte strings of at most five bytes from a few that differ in the top bit, in being 0 and in the lowest bit.
func shortTexts() [][]byte {
	list := [][]byte{nil}
	for first, length := 0, 0; length < 5; length++ {
		end := len(list)
		for _, b := range list[first:end] {
			for _, c := range []byte{0, 1, 2, 127, 128, 129, 255} {
				list = append(list, append(slices.Clone(b), c))
			}
		}
		first = end
	}
	return list
}

// longTexts returns byte strings that end at each place up to the twelfth, after bytes with the top bit set, with each last byte.
func longTexts() [][]byte {
	var list [][]byte
	for _, fill := range []byte{128, 129, 255} {
		for before := range 12 {
			head := bytes.Repeat([]byte{fill}, before)
			list = append(list, head)
			for last := range 256 {
				list = append(list, append(slices.Clone(head), byte(last)))
			}
		}
	}
	return list
}

func uintOK(t *testing.T, b []byte, want uint64, size int) {
	t.Helper()
	if n, k, e := Uint(b); n != want || k != size || e != api.OK {
		t.Errorf("Uint of %v: got %d, %d and %d, want %d, %d and OK", b, n, k, e, want, size)
	}
}

func uintFails(t *testing.T, b []byte, want api.Errno) {
	t.Helper()
	if n, k, e := Uint(b); n != 0 || k != 0 || e != want {
		t.Errorf("Uint of %v: got %d, %d and %d, want 0, 0 and %d", b, n, k, e, want)
	}
}

func bytesOK(t *testing.T, b, want []byte, size int) {
	t.Helper()
	if s, k, e := Bytes(b); !bytes.Equal(s, want) || k != size || e != api.OK {
		t.Errorf("Bytes of %.20v: got %d bytes, %d and %d, want %d bytes, %d and OK", b, len(s), k, e, len(want), size)
	}
}

func bytesFails(t *testing.T, b []byte, want api.Errno) {
	t.Helper()
	if s, k, e := Bytes(b); len(s) != 0 || k != 0 || e != want {
		t.Errorf("Bytes of %.20v: got %d bytes, %d and %d, want none, 0 and %d", b, len(s), k, e, want)
	}
}

// uintAsDefined checks Uint by the words of P2.2, with the encoder of the standard library, which writes the same encodings.
func uintAsDefined(t *testing.T, b []byte) {
	t.Helper()
	n, size := binary.Uvarint(b)
	if size > 0 && bytes.HasPrefix(b, binary.AppendUvarint(nil, n)) {
		uintOK(t, b, n, size)
		return
	}
	ends := slices.ContainsFunc(b, func(c byte) bool { return c < 128 })
	if len(b) < 10 && !ends {
		uintFails(t, b, api.ErrTrunc)
		return
	}
	uintFails(t, b, api.ErrForm)
}

// bytesAsDefined checks Bytes by the words of P2.3.
func bytesAsDefined(t *testing.T, b []byte) {
	t.Helper()
	n, size, e := Uint(b)
	switch {
	case e != api.OK:
		bytesFails(t, b, e)
	case n > api.MaxWire:
		bytesFails(t, b, api.ErrBig)
	case uint64(len(b)) < uint64(size)+n:
		bytesFails(t, b, api.ErrTrunc)
	default:
		end := size + int(n)
		bytesOK(t, b, b[size:end], end)
	}
}

// P2.1
func TestPutUint(t *testing.T) {
	for _, x := range []struct {
		n    uint64
		want []byte
	}{
		{0, []byte{0}},
		{1, []byte{1}},
		{127, []byte{127}},
		{128, []byte{128, 1}},
		{255, []byte{255, 1}},
		{300, []byte{172, 2}},
		{16383, []byte{255, 127}},
		{16384, []byte{128, 128, 1}},
		{1<<63 - 1, []byte{255, 255, 255, 255, 255, 255, 255, 255, 127}},
		{1 << 63, []byte{128, 128, 128, 128, 128, 128, 128, 128, 128, 1}},
		{math.MaxUint64, []byte{255, 255, 255, 255, 255, 255, 255, 255, 255, 1}},
	} {
		for _, b := range [][]byte{nil, {}, {0}, {128}, {9, 8, 7}} {
			if got, want := PutUint(b, x.n), slices.Concat(b, x.want); !bytes.Equal(got, want) {
				t.Errorf("PutUint of %v and %d: got %v, want %v", b, x.n, got, want)
			}
		}
	}
	for _, n := range numbers() {
		if got, want := PutUint(nil, n), binary.AppendUvarint(nil, n); !bytes.Equal(got, want) {
			t.Errorf("PutUint of %d: got %v, want %v", n, got, want)
		}
	}
}

// P2.1
func TestPutBytes(t *testing.T) {
	for _, x := range []struct{ b, s, want []byte }{
		{nil, nil, []byte{0}},
		{nil, []byte{}, []byte{0}},
		{[]byte{5}, nil, []byte{5, 0}},
		{[]byte{5}, []byte("abc"), []byte{5, 3, 'a', 'b', 'c'}},
		{[]byte{128}, []byte{0}, []byte{128, 1, 0}},
		{nil, []byte{128, 255}, []byte{2, 128, 255}},
	} {
		if got := PutBytes(x.b, x.s); !bytes.Equal(got, x.want) {
			t.Errorf("PutBytes of %v and %v: got %v, want %v", x.b, x.s, got, x.want)
		}
	}
	for _, length := range []int{127, 128, 16383, 16384, api.MaxWire - 1, api.MaxWire, api.MaxWire + 1, 3 * api.MaxWire} {
		s := bytes.Repeat([]byte{7}, length)
		want := slices.Concat([]byte{1, 2}, binary.AppendUvarint(nil, uint64(length)), s)
		if got := PutBytes([]byte{1, 2}, s); !bytes.Equal(got, want) {
			t.Errorf("PutBytes of %d bytes: got %d bytes, want %d", length, len(got), len(want))
		}
	}
}

// P2.1
func TestPutLeavesArguments(t *testing.T) {
	for _, put := range []func(b, s []byte) []byte{
		func(b, s []byte) []byte { return PutUint(b, 300) },
		PutBytes,
	} {
		memory := bytes.Repeat([]byte{42}, 100)
		b, s := memory[:10], memory[60:80]
		got := put(b, s)
		if !bytes.Equal(memory, bytes.Repeat([]byte{42}, 100)) {
			t.Errorf("the memory of the arguments was changed: %v", memory)
		}
		want := slices.Clone(got)
		for i := range memory {
			memory[i] = 1
		}
		if !bytes.Equal(got, want) {
			t.Errorf("the result changed with the arguments: got %v, want %v", got, want)
		}
		for i := range got {
			got[i] = 2
		}
		if !bytes.Equal(memory, bytes.Repeat([]byte{1}, 100)) {
			t.Errorf("the arguments changed with the result: %v", memory)
		}
	}
}

// P2.1: results from one beginning, and a string put behind itself.
func TestPutTwice(t *testing.T) {
	b := make([]byte, 1, 100)
	first, second := PutUint(b, 7), PutUint(b, 8)
	if !bytes.Equal(first, []byte{0, 7}) || !bytes.Equal(second, []byte{0, 8}) {
		t.Errorf("PutUint: got %v and %v", first, second)
	}
	first, second = PutBytes(b, []byte{7}), PutBytes(b, []byte{8})
	if !bytes.Equal(first, []byte{0, 1, 7}) || !bytes.Equal(second, []byte{0, 1, 8}) {
		t.Errorf("PutBytes: got %v and %v", first, second)
	}
	if got := PutBytes(b, b); !bytes.Equal(got, []byte{0, 1, 0}) {
		t.Errorf("PutBytes of a string and itself: got %v", got)
	}
}

// P2.2
func TestUint(t *testing.T) {
	ones := bytes.Repeat([]byte{255}, 12)
	for _, x := range []struct {
		b    []byte
		want uint64
		size int
	}{
		{[]byte{0}, 0, 1},
		{[]byte{0, 0}, 0, 1},
		{[]byte{5, 128}, 5, 1},
		{[]byte{127}, 127, 1},
		{[]byte{128, 1}, 128, 2},
		{[]byte{172, 2}, 300, 2},
		{[]byte{172, 2, 255, 255}, 300, 2},
		{[]byte{129, 128, 1}, 16385, 3},
		{append(ones[:8:8], 127), 1<<63 - 1, 9},
		{append(ones[:9:9], 1), math.MaxUint64, 10},
		{append(ones[:9:9], 1, 0), math.MaxUint64, 10},
	} {
		uintOK(t, x.b, x.want, x.size)
	}
	for _, x := range []struct {
		b    []byte
		want api.Errno
	}{
		{nil, api.ErrTrunc},
		{[]byte{}, api.ErrTrunc},
		{[]byte{128}, api.ErrTrunc},
		{[]byte{128, 255}, api.ErrTrunc},
		{ones[:9], api.ErrTrunc},
		{ones[:10], api.ErrForm},
		{ones[:11], api.ErrForm},
		{append(ones[:10:10], 1), api.ErrForm},
		{[]byte{128, 0}, api.ErrForm},
		{[]byte{128, 0, 1}, api.ErrForm},
		{[]byte{255, 128, 0}, api.ErrForm},
		{append(ones[:8:8], 0), api.ErrForm},
		{append(ones[:9:9], 0), api.ErrForm},
		{append(ones[:9:9], 2), api.ErrForm},
		{append(ones[:9:9], 3), api.ErrForm},
		{append(ones[:9:9], 127), api.ErrForm},
		{append(ones[:9:9], 129), api.ErrForm},
	} {
		uintFails(t, x.b, x.want)
	}
}

// P2.2: many texts, against the definition.
func TestUintAsDefined(t *testing.T) {
	for _, b := range slices.Concat(shortTexts(), longTexts()) {
		uintAsDefined(t, b)
		uintAsDefined(t, append(slices.Clone(b), 0))
		uintAsDefined(t, append(slices.Clone(b), 200, 7))
	}
	for first := range 256 {
		for second := range 256 {
			uintAsDefined(t, []byte{byte(first), byte(second)})
		}
	}
}

// P2.3
func TestBytes(t *testing.T) {
	most := bytes.Repeat([]byte{7}, api.MaxWire)
	for _, x := range []struct {
		b, want []byte
		size    int
	}{
		{[]byte{0}, nil, 1},
		{[]byte{0, 1, 2}, nil, 1},
		{[]byte{1, 0}, []byte{0}, 2},
		{[]byte{3, 'a', 'b', 'c'}, []byte("abc"), 4},
		{[]byte{3, 'a', 'b', 'c', 'd'}, []byte("abc"), 4},
		{append([]byte{128, 1}, most[:200]...), most[:128], 130},
		{append([]byte{128, 128, 4}, most...), most, api.MaxWire + 3},
	} {
		bytesOK(t, x.b, x.want, x.size)
	}
	for _, x := range []struct {
		b    []byte
		want api.Errno
	}{
		{nil, api.ErrTrunc},
		{[]byte{}, api.ErrTrunc},
		{[]byte{128}, api.ErrTrunc},
		{[]byte{128, 0}, api.ErrForm},
		{[]byte{131, 0, 1, 2, 3}, api.ErrForm},
		{bytes.Repeat([]byte{255}, 10), api.ErrForm},
		{[]byte{1}, api.ErrTrunc},
		{[]byte{3, 'a', 'b'}, api.ErrTrunc},
		{append([]byte{128, 128, 4}, most[1:]...), api.ErrTrunc},
		{[]byte{128, 128, 4}, api.ErrTrunc},
		{[]byte{129, 128, 4}, api.ErrBig},
		{slices.Concat([]byte{129, 128, 4}, most, most), api.ErrBig},
		{binary.AppendUvarint(nil, 1<<32), api.ErrBig},
		{binary.AppendUvarint(nil, 1<<32+1), api.ErrBig},
		{append(binary.AppendUvarint(nil, 1<<63), most...), api.ErrBig},
		{append(binary.AppendUvarint(nil, math.MaxUint64), most...), api.ErrBig},
	} {
		bytesFails(t, x.b, x.want)
	}
}

// P2.3: many texts, against the definition.
func TestBytesAsDefined(t *testing.T) {
	for _, b := range slices.Concat(shortTexts(), longTexts()) {
		bytesAsDefined(t, b)
	}
	for _, n := range numbers() {
		b := PutUint(nil, n)
		bytesAsDefined(t, b)
		bytesAsDefined(t, append(b, make([]byte, 300)...))
	}
}

// P2.3: the string is new memory (general rule 3).
func TestBytesLeavesArgument(t *testing.T) {
	b := []byte{2, 5, 6, 7, 8}
	s, _, _ := Bytes(b)
	s[0] = 9
	_ = append(s, 10)
	if !bytes.Equal(b, []byte{2, 5, 6, 7, 8}) {
		t.Errorf("the argument changed with the result: %v", b)
	}
	s, _, _ = Bytes(b)
	b[1], b[2] = 1, 1
	if !bytes.Equal(s, []byte{5, 6}) {
		t.Errorf("the result changed with the argument: %v", s)
	}
}

// P2.4
func TestReadingInvertsPutting(t *testing.T) {
	followers := [][]byte{nil, {0}, {1}, {128}, {255, 255, 255}, bytes.Repeat([]byte{128}, 20)}
	for _, n := range numbers() {
		code := PutUint(nil, n)
		for _, rest := range followers {
			uintOK(t, slices.Concat(code, rest), n, len(code))
		}
	}
	for _, length := range []int{0, 1, 2, 127, 128, 129, 16383, 16384, api.MaxWire - 1, api.MaxWire} {
		for _, fill := range []byte{0, 1, 128, 255} {
			s := bytes.Repeat([]byte{fill}, length)
			code := PutBytes(nil, s)
			for _, rest := range followers {
				bytesOK(t, slices.Concat(code, rest), s, len(code))
			}
		}
	}
}

// P2.4: a text that Uint or Bytes reads whole is the encoding of what was read, so no second encoding exists.
func TestPuttingInvertsReading(t *testing.T) {
	for _, b := range slices.Concat(shortTexts(), longTexts()) {
		if n, size, e := Uint(b); e == api.OK && !bytes.Equal(PutUint(nil, n), b[:size]) {
			t.Errorf("Uint read %d from %v", n, b[:size])
		}
		if s, size, e := Bytes(b); e == api.OK && !bytes.Equal(PutBytes(nil, s), b[:size]) {
			t.Errorf("Bytes read %v from %v", s, b[:size])
		}
	}
}

// P2.4: what is cut off from an encoding is too short, and never an encoding itself.
func TestNoEncodingBeginsAnother(t *testing.T) {
	for _, n := range numbers() {
		code := PutUint(nil, n)
		for k := range code {
			uintFails(t, code[:k], api.ErrTrunc)
		}
	}
	for _, length := range []int{0, 1, 2, 127, 128, 300} {
		code := PutBytes(nil, make([]byte, length))
		for k := range code {
			bytesFails(t, code[:k], api.ErrTrunc)
		}
	}
}

func FuzzRead(f *testing.F) {
	for _, b := range [][]byte{nil, {0}, {172, 2}, {128, 0}, {128}, {3, 1, 2, 3}, {129, 128, 4}, bytes.Repeat([]byte{255}, 10)} {
		f.Add(b)
	}
	f.Fuzz(func(t *testing.T, b []byte) {
		uintAsDefined(t, b)
		bytesAsDefined(t, b)
	})
}
