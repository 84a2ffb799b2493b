package event

import (
	"bytes"
	"encoding/binary"
	"math"
	"math/rand"
	"slices"
	"testing"

	"pluginhost/api"
)

// event returns an event from its numbers.
func event(plugin, op int, h, arg uint64, err int) api.Event {
	return api.Event{Plugin: plugin, Op: op, Handle: api.Handle(h), Arg: arg, Err: api.Errno(err)}
}

// words returns words of all sizes: each bit alone, and the numbers next to it.
func words() []uint64 {
	list := []uint64{0, 300, math.MaxUint64}
	for bit := range 64 {
		list = append(list, 1<<bit-1, 1<<bit, 1<<bit+1)
	}
	return list
}

// ints returns the same words as ints, negative ones among them, and all small ints around 0.
func ints() []int {
	var list []int
	for n := -300; n <= 300; n++ {
		list = append(list, n)
	}
	for _, n := range words() {
		list = append(list, int(n), -int(n))
	}
	return list
}

// isPlugin, isKind and isError tell from lists, not from bounds, which numbers P16.1 permits.
func isPlugin(n uint64) bool {
	for p := range uint64(64) {
		if n == p+1 {
			return true
		}
	}
	return false
}

func isKind(n uint64) bool {
	return slices.Contains([]uint64{1, 2, 3, 4, 5, 6, 7, 8, 9, 10, 11, 32, 33}, n)
}

func isError(n uint64) bool {
	for code := range uint64(30) {
		if n == code {
			return true
		}
	}
	return false
}

// checkedAsDefined returns what P16.1 says. (A negative number is a great word.)
func checkedAsDefined(ev api.Event) api.Errno {
	if isPlugin(uint64(ev.Plugin)) && isKind(uint64(ev.Op)) && isError(uint64(ev.Err)) {
		return api.OK
	}
	return api.ErrArg
}

// put returns the encodings of numbers, written by the standard library.
func put(list ...uint64) []byte {
	var b []byte
	for _, n := range list {
		b = binary.AppendUvarint(b, n)
	}
	return b
}

// encodingAsDefined returns the encoding of an event, if it has one.
func encodingAsDefined(ev api.Event) []byte {
	return put(uint64(ev.Plugin), uint64(ev.Op), uint64(ev.Handle), ev.Arg, uint64(ev.Err))
}

// numberAsDefined returns what P2.2 says, with the decoder of the standard library, which also reads longer encodings.
func numberAsDefined(b []byte) (uint64, int, api.Errno) {
	n, size := binary.Uvarint(b)
	if size > 0 && bytes.HasPrefix(b, binary.AppendUvarint(nil, n)) {
		return n, size, api.OK
	}
	ends := slices.ContainsFunc(b, func(c byte) bool { return c < 128 })
	if len(b) < 10 && !ends {
		return 0, 0, api.ErrTrunc
	}
	return 0, 0, api.ErrForm
}

// decodedAsDefined returns what P16.3 says.
func decodedAsDefined(b []byte) (api.Event, api.Errno) {
	var list []uint64
	used := 0
	for len(list) < 5 {
		n, size, code := numberAsDefined(b[used:])
		if code != api.OK {
			return api.Event{}, code
		}
		list = append(list, n)
		used += size
	}
	if used != len(b) {
		return api.Event{}, api.ErrForm
	}
	if !isPlugin(list[0]) || !isKind(list[1]) || !isError(list[4]) {
		return api.Event{}, api.ErrArg
	}
	return event(int(list[0]), int(list[1]), list[2], list[3], int(list[4])), api.OK
}

func encodes(t *testing.T, ev api.Event, want []byte, e api.Errno) {
	t.Helper()
	if code := Check(ev); code != e {
		t.Errorf("Check of %v: got %d, want %d", ev, code, e)
	}
	if b, code := Encode(ev); !bytes.Equal(b, want) || code != e {
		t.Errorf("Encode of %v: got %v and %d, want %v and %d", ev, b, code, want, e)
	}
}

func decodes(t *testing.T, b []byte, want api.Event, e api.Errno) {
	t.Helper()
	before := slices.Clone(b)
	if ev, code := Decode(b); ev != want || code != e {
		t.Errorf("Decode of %v: got %v and %d, want %v and %d", b, ev, code, want, e)
	}
	if !bytes.Equal(b, before) {
		t.Errorf("Decode of %v has changed them to %v", before, b)
	}
}

// fails checks that Decode returns no event.
func fails(t *testing.T, b []byte, e api.Errno) {
	t.Helper()
	decodes(t, b, api.Event{}, e)
}

// checkEvent checks Check and Encode by their definition, and that Decode inverts Encode, and reads neither less nor more.
func checkEvent(t *testing.T, ev api.Event) {
	t.Helper()
	if e := checkedAsDefined(ev); e != api.OK {
		encodes(t, ev, nil, e)
		fails(t, encodingAsDefined(ev), e)
		return
	}
	b := encodingAsDefined(ev)
	encodes(t, ev, b, api.OK)
	decodes(t, b, ev, api.OK)
	for end := range b {
		fails(t, b[:end], api.ErrTrunc)
	}
	for _, rest := range [][]byte{{0}, {1, 0}, {128}, {128, 0}, b, bytes.Repeat([]byte{255}, 12)} {
		fails(t, slices.Concat(b, rest), api.ErrForm)
	}
}

// checkDecode checks Decode by its definition, and that the bytes of an event are its only encoding.
func checkDecode(t *testing.T, b []byte) {
	t.Helper()
	want, e := decodedAsDefined(b)
	decodes(t, b, want, e)
	if e == api.OK {
		encodes(t, want, b, api.OK)
	}
}

// The example of the document.
func TestExample(t *testing.T) {
	ev := event(1, api.OpFree, 0, 0, int(api.ErrStale))
	encodes(t, ev, []byte{1, 2, 0, 0, 11}, api.OK)
	decodes(t, []byte{1, 2, 0, 0, 11}, ev, api.OK)
}

// P16.1 to P16.3: ordinary events, written by hand.
func TestOrdinary(t *testing.T) {
	for _, x := range []struct {
		ev api.Event
		b  []byte
	}{
		{event(1, api.EvStart, 0, 0, 0), []byte{1, 32, 0, 0, 0}},
		{event(2, api.EvEnd, 0, 300, 0), []byte{2, 33, 0, 172, 2, 0}},
		{event(3, api.OpAlloc, 0x0200000001000005, 7, 0), []byte{3, 1, 133, 128, 128, 136, 128, 128, 128, 128, 2, 7, 0}},
		{event(64, api.OpRelease, math.MaxUint64, math.MaxUint64, 29), []byte{64, 11, 255, 255, 255, 255, 255, 255, 255, 255, 255, 1, 255, 255, 255, 255, 255, 255, 255, 255, 255, 1, 29}},
	} {
		encodes(t, x.ev, x.b, api.OK)
		decodes(t, x.b, x.ev, api.OK)
	}
}

// P16.1: each of the three numbers that are checked, alone, with the least and the greatest of the others.
func TestCheckEachNumber(t *testing.T) {
	for _, n := range ints() {
		for _, others := range []api.Event{event(1, api.OpAlloc, 0, 0, 0), event(api.MaxPlugins, api.EvEnd, math.MaxUint64, math.MaxUint64, int(api.ErrSyntax))} {
			ev := others
			ev.Plugin = n
			checkEvent(t, ev)
			ev = others
			ev.Op = n
			checkEvent(t, ev)
			ev = others
			ev.Err = api.Errno(n)
			checkEvent(t, ev)
		}
	}
}

// P16.1: all operations, with all numbers of plugins and errors and those next to them.
func TestCheckTogether(t *testing.T) {
	for plugin := -1; plugin <= 66; plugin++ {
		for op := -1; op <= 35; op++ {
			for code := -1; code <= 31; code++ {
				ev := event(plugin, op, 5, 6, code)
				if got, want := Check(ev), checkedAsDefined(ev); got != want {
					t.Errorf("Check of %v: got %d, want %d", ev, got, want)
				}
			}
		}
	}
}

// P16.1 and P16.2: the handle and the argument are any words, also those that are no handles.
func TestAnyWords(t *testing.T) {
	for _, n := range words() {
		for _, m := range words() {
			checkEvent(t, event(9, api.OpTransfer, n, m, 13))
			checkEvent(t, event(9, 12, n, m, 13))
		}
	}
}

// P16.3: an error of a number comes before bytes that follow, and these before numbers that are not those of an event.
func TestDecodeOrder(t *testing.T) {
	for _, x := range []struct {
		b []byte
		e api.Errno
	}{
		{nil, api.ErrTrunc},
		{[]byte{0}, api.ErrTrunc},
		{[]byte{0, 0, 0, 0}, api.ErrTrunc},
		{[]byte{0, 0, 0, 0, 128}, api.ErrTrunc},
		{[]byte{128, 0}, api.ErrForm},
		{[]byte{0, 128, 0}, api.ErrForm},
		{[]byte{0, 0, 0, 0, 128, 0}, api.ErrForm},
		{[]byte{0, 0, 0, 0, 0}, api.ErrArg},
		{[]byte{0, 0, 0, 0, 0, 0}, api.ErrForm},
		{[]byte{0, 0, 0, 0, 0, 128}, api.ErrForm},
		{[]byte{1, 1, 0, 0, 0, 0}, api.ErrForm},
		{[]byte{1, 1, 0, 0, 0, 1, 1, 0, 0, 0}, api.ErrForm},
		{[]byte{1, 1, 0, 0, 0}, api.OK},
	} {
		want := api.Event{}
		if x.e == api.OK {
			want = event(1, 1, 0, 0, 0)
		}
		decodes(t, x.b, want, x.e)
	}
}

// P16.3: each number may be one that does not fit the event, also one that has the right low bits, or have no encoding, after numbers that are or are not those of an event.
func TestDecodeEachNumber(t *testing.T) {
	notNumbers := [][]byte{{}, {128}, {255, 255}, {128, 0}, {129, 128, 0}, bytes.Repeat([]byte{255}, 10), append(bytes.Repeat([]byte{128}, 9), 2)}
	for _, good := range [][]uint64{{1, 1, 0, 0, 0}, {64, 33, 1 << 63, 1 << 40, 29}, {0, 12, 3, 4, 30}} {
		for i := range good {
			list := slices.Clone(good)
			for bit := range 64 {
				list[i] = good[i] ^ 1<<bit
				checkDecode(t, put(list...))
				list[i] = good[i] - 1<<bit
				checkDecode(t, put(list...))
			}
			for _, not := range notNumbers {
				checkDecode(t, slices.Concat(put(good[:i]...), not))
				checkDecode(t, slices.Concat(put(good[:i]...), not, put(good[i+1:]...)))
			}
		}
	}
}

// P16.3: all byte strings of at most seven bytes from a few that are numbers of events, or not, or do not end.
func TestDecodeAllShort(t *testing.T) {
	list := [][]byte{nil}
	for first, length := 0, 0; length < 7; length++ {
		end := len(list)
		for _, b := range list[first:end] {
			for _, c := range []byte{0, 1, 12, 29, 32, 64, 128} {
				list = append(list, append(slices.Clone(b), c))
			}
		}
		first = end
	}
	for _, b := range list {
		want, e := decodedAsDefined(b)
		if ev, code := Decode(b); ev != want || code != e {
			t.Fatalf("Decode of %v: got %v and %d, want %v and %d", b, ev, code, want, e)
		}
	}
}

// P16.1 to P16.4: mixed events, and their encodings with one byte changed.
func TestMixed(t *testing.T) {
	random := rand.New(rand.NewSource(16))
	for range 3000 {
		plugin, op := random.Intn(api.MaxPlugins)+1, random.Intn(13)+1
		if op > api.OpRelease {
			op += api.EvStart - 12
		}
		h, arg := random.Uint64()>>random.Intn(65), random.Uint64()>>random.Intn(65)
		ev := event(plugin, op, h, arg, random.Intn(30))
		if Check(ev) != api.OK {
			t.Fatalf("Check of %v: got %d", ev, Check(ev))
		}
		checkEvent(t, ev)
		b := encodingAsDefined(ev)
		for i := range b {
			changed := slices.Clone(b)
			changed[i] ^= byte(random.Intn(255) + 1)
			checkDecode(t, changed)
		}
	}
}

// P16.4: different events have different encodings, all events with few words among them.
func TestDifferent(t *testing.T) {
	seen := map[string]api.Event{}
	for plugin := 1; plugin <= api.MaxPlugins; plugin++ {
		for _, op := range []int{1, 2, 3, 4, 5, 6, 7, 8, 9, 10, 11, 32, 33} {
			for _, h := range []uint64{0, 1, 128} {
				for _, arg := range []uint64{0, 1, 300} {
					for _, code := range []int{0, 1, 28, 29} {
						ev := event(plugin, op, h, arg, code)
						b, e := Encode(ev)
						if other, known := seen[string(b)]; known || e != api.OK {
							t.Errorf("Encode of %v: got %v and %d, like %v", ev, b, e, other)
						}
						seen[string(b)] = ev
					}
				}
			}
		}
	}
	if want := 64 * 13 * 3 * 3 * 4; len(seen) != want {
		t.Errorf("got %d encodings, want %d", len(seen), want)
	}
}

// General rule 3: results are new memory.
func TestNewMemory(t *testing.T) {
	ev := event(1, api.OpFree, 0, 0, 11)
	one, _ := Encode(ev)
	clear(one[:cap(one)])
	other, _ := Encode(ev)
	if want := []byte{1, 2, 0, 0, 11}; !bytes.Equal(other, want) {
		t.Errorf("got %v, want %v", other, want)
	}
	clear(other)
	encodes(t, ev, []byte{1, 2, 0, 0, 11}, api.OK)
}
