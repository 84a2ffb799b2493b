package audit

import (
	"bytes"
	"encoding/binary"
	"hash/fnv"
	"iter"
	"math"
	"math/rand"
	"reflect"
	"slices"
	"testing"

	"pluginhost/api"
)

// noDigest is the digest of no bytes.
const noDigest = 14695981039346656037

// fnvSum returns the FNV-1a digest of the standard library.
func fnvSum(b []byte) uint64 {
	h := fnv.New64a()
	h.Write(b)
	return h.Sum64()
}

// chain returns the digest of a record that follows one with the digest last.
func chain(last uint64, encoding []byte) uint64 {
	return fnvSum(slices.Concat(binary.LittleEndian.AppendUint64(nil, last), encoding))
}

// put returns the encodings of numbers.
func put(list ...uint64) []byte {
	var b []byte
	for _, n := range list {
		b = binary.AppendUvarint(b, n)
	}
	return b
}

// encode returns the encoding of an event, also of one that event.Check refuses.
func encode(ev api.Event) []byte {
	return put(uint64(ev.Plugin), uint64(ev.Op), uint64(ev.Handle), ev.Arg, uint64(ev.Err))
}

// record returns a record with this byte string and this digest.
func record(encoding []byte, d uint64) []byte {
	return binary.LittleEndian.AppendUint64(slices.Concat(put(uint64(len(encoding))), encoding), d)
}

// records returns the bytes of a log of these byte strings, and the last digest.
func records(encodings ...[]byte) ([]byte, uint64) {
	var b []byte
	last := uint64(noDigest)
	for _, x := range encodings {
		last = chain(last, x)
		b = append(b, record(x, last)...)
	}
	return b, last
}

// logOf returns the bytes of a log of these events, and the last digest.
func logOf(events ...api.Event) ([]byte, uint64) {
	var list [][]byte
	for _, ev := range events {
		list = append(list, encode(ev))
	}
	return records(list...)
}

// isEvent tells which events P16.1 permits.
func isEvent(ev api.Event) bool {
	return 1 <= ev.Plugin && ev.Plugin <= 64 && slices.Contains([]int{1, 2, 3, 4, 5, 6, 7, 8, 9, 10, 11, 32, 33}, ev.Op) && 0 <= ev.Err && ev.Err <= 29
}

// model does what the document says: it keeps what was appended and missed, and counts it whenever it is asked.
type model struct {
	capacity int
	events   []api.Event
	missed   []int
}

func (m *model) count(plugin int) int {
	n := 0
	for _, ev := range m.events {
		if ev.Plugin == plugin && ev.Op <= 11 {
			n++
		}
	}
	return n
}

func (m *model) append(ev api.Event) api.Errno {
	if !isEvent(ev) {
		return api.ErrArg
	}
	if ev.Op <= 11 && m.count(ev.Plugin) >= m.capacity {
		return api.ErrLog
	}
	m.events = append(m.events, ev)
	return api.OK
}

func (m *model) missedOf(plugin int) int {
	n := 0
	for _, p := range m.missed {
		if p == plugin {
			n++
		}
	}
	return n
}

// pair is what All and Query yield.
type pair struct {
	index int
	ev    api.Event
}

// query returns what Query must yield, or All if plugin is 0, which has no events.
func (m *model) query(plugin int) []pair {
	var list []pair
	for i, ev := range m.events {
		if plugin == 0 || ev.Plugin == plugin {
			list = append(list, pair{i, ev})
		}
	}
	return list
}

func collect(seq iter.Seq2[int, api.Event]) []pair {
	var list []pair
	for i, ev := range seq {
		list = append(list, pair{i, ev})
	}
	return list
}

// numbers are numbers of plugins, and others.
func numbers() []int {
	return []int{math.MinInt, -4, -1, 0, 1, 2, 3, 63, 64, 65, 99, math.MaxInt}
}

// checkLog compares everything that can be seen of a log with the model.
func checkLog(t *testing.T, l *Log, m *model) {
	t.Helper()
	if l.Len() != len(m.events) {
		t.Fatalf("Len: got %d, want %d", l.Len(), len(m.events))
	}
	for _, p := range numbers() {
		n := m.count(p)
		if l.Records(p) != n || l.Missed(p) != m.missedOf(p) || l.Room(p) != (n < m.capacity) {
			t.Fatalf("plugin %d: got %d %d %t, want %d %d %t", p, l.Records(p), l.Missed(p), l.Room(p), n, m.missedOf(p), n < m.capacity)
		}
		if got, want := collect(l.Query(p)), m.query(p); p != 0 && !slices.Equal(got, want) || p == 0 && len(got) > 0 {
			t.Fatalf("Query of %d: got %v, want %v", p, got, want)
		}
	}
	if got, want := collect(l.All()), m.query(0); !slices.Equal(got, want) {
		t.Fatalf("All: got %v, want %v", got, want)
	}
	checkBytes(t, l, m.events)
}

// checkBytes checks Bytes, Digest and that Decode inverts Bytes, for a log that contains these events.
func checkBytes(t *testing.T, l *Log, events []api.Event) {
	t.Helper()
	b, d := logOf(events...)
	if !bytes.Equal(l.Bytes(), b) || l.Digest() != d {
		t.Fatalf("Bytes and Digest: got %v and %d, want %v and %d", l.Bytes(), l.Digest(), b, d)
	}
	if got, e := Decode(b); !slices.Equal(got, events) || e != api.OK {
		t.Fatalf("Decode of %v: got %v and %d, want %v", b, got, e, events)
	}
}

// newLog returns a log with this capacity, which must be one.
func newLog(t *testing.T, capacity int) *Log {
	t.Helper()
	l, e := New(capacity)
	if l == nil || e != api.OK {
		t.Fatalf("New(%d): got %v and %d", capacity, l, e)
	}
	return l
}

// appends appends an event to a log and to the model, and checks the error, and that an error changes nothing.
func appends(t *testing.T, l *Log, m *model, ev api.Event) {
	t.Helper()
	b := l.Bytes()
	got, want := l.Append(ev), m.append(ev)
	if got != want {
		t.Fatalf("Append of %v: got %d, want %d", ev, got, want)
	}
	// P17.8: appending keeps the bytes before.
	after := l.Bytes()
	if !bytes.HasPrefix(after, b) || (len(after) == len(b)) != (got != api.OK) {
		t.Fatalf("Append of %v: got the bytes %v after %v", ev, after, b)
	}
}

// op returns an event of an operation, and mark one that is none.
func op(plugin int) api.Event { return api.Event{Plugin: plugin, Op: api.OpFree, Arg: 300} }

func mark(plugin int) api.Event { return api.Event{Plugin: plugin, Op: api.EvStart} }

// The example of the document.
func TestExample(t *testing.T) {
	l := newLog(t, 1)
	for _, x := range []struct {
		plugin int
		e      api.Errno
	}{{3, api.OK}, {3, api.ErrLog}, {4, api.OK}, {4, api.ErrLog}} {
		if e := l.Append(op(x.plugin)); e != x.e {
			t.Errorf("Append for the plugin %d: got %d, want %d", x.plugin, e, x.e)
		}
	}
	checkLog(t, l, &model{capacity: 1, events: []api.Event{op(3), op(4)}})
}

// P17.5 and P17.6: the bytes of a log, written by hand.
func TestBytesByHand(t *testing.T) {
	l := newLog(t, 5)
	if l.Append(api.Event{Plugin: 1, Op: api.EvStart}) != api.OK || l.Append(api.Event{Plugin: 1, Op: api.OpFree, Handle: 300, Arg: 2, Err: 11}) != api.OK {
		t.Fatal("Append: got an error")
	}
	first := fnvSum([]byte{0x25, 0x23, 0x22, 0x84, 0xe4, 0x9c, 0xf2, 0xcb, 1, 32, 0, 0, 0})
	want := []byte{5, 1, 32, 0, 0, 0}
	for k := range 8 {
		want = append(want, byte(first>>(8*k)))
	}
	second := fnvSum(slices.Concat(want[6:], []byte{1, 2, 172, 2, 2, 11}))
	want = append(want, 6, 1, 2, 172, 2, 2, 11)
	for k := range 8 {
		want = append(want, byte(second>>(8*k)))
	}
	if !bytes.Equal(l.Bytes(), want) || l.Digest() != second {
		t.Errorf("got %v and %d, want %v and %d", l.Bytes(), l.Digest(), want, second)
	}
}

// P17.1: the capacities that there are and those next to them; a new log is empty.
func TestNew(t *testing.T) {
	for _, n := range []int{math.MinInt, math.MinInt32, -65536, -2, -1, 65537, 65538, 1 << 17, math.MaxInt32, math.MaxInt} {
		if l, e := New(n); l != nil || e != api.ErrArg {
			t.Errorf("New(%d): got %v and %d", n, l, e)
		}
	}
	for _, n := range []int{0, 1, 2, 300, 65535, 65536} {
		checkLog(t, newLog(t, n), &model{capacity: n})
	}
}

// P17.1 and P17.2: a log takes as many operations of each plugin as its capacity, and not one more, whatever the others have.
func TestCapacity(t *testing.T) {
	for _, capacity := range []int{0, 1, 2, 7, 256, 65535, 65536} {
		l := newLog(t, capacity)
		for n := range capacity {
			if !l.Room(64) || l.Append(op(64)) != api.OK || l.Records(64) != n+1 {
				t.Fatalf("capacity %d: got no record %d", capacity, n)
			}
		}
		if l.Room(64) || l.Append(op(64)) != api.ErrLog || l.Records(64) != capacity || l.Len() != capacity {
			t.Errorf("capacity %d: got a record more", capacity)
		}
		if l.Room(1) != (capacity > 0) || l.Room(63) != (capacity > 0) || (l.Append(op(1)) == api.OK) != (capacity > 0) {
			t.Errorf("capacity %d: another plugin has the wrong room", capacity)
		}
		if l.Append(api.Event{Plugin: 64, Op: api.EvEnd}) != api.OK || l.Records(64) != capacity {
			t.Errorf("capacity %d: EvEnd is counted", capacity)
		}
	}
}

// P17.2: each operation counts, with each error, and EvStart and EvEnd never do.
func TestEachOperation(t *testing.T) {
	for k := -1; k <= 40; k++ {
		for _, code := range []api.Errno{-1, 0, 1, api.ErrLog, 29, 30} {
			l, m := newLog(t, 2), &model{capacity: 2}
			for range 4 {
				appends(t, l, m, api.Event{Plugin: 3, Op: k, Handle: 7, Err: code})
				appends(t, l, m, op(2))
			}
			checkLog(t, l, m)
		}
	}
}

// P17.2: an event that event.Check refuses has its error also if there is no room for it, and neither has an effect.
func TestAppendOrder(t *testing.T) {
	bad := []api.Event{{}, op(0), op(-1), op(65), {Plugin: 1}, {Plugin: 1, Op: 12}, {Plugin: 1, Op: 31}, {Plugin: 1, Op: 34}, {Plugin: 1, Op: 1, Err: 30}, {Plugin: 1, Op: 1, Err: -1}, {Plugin: 65, Op: api.EvStart}, {Plugin: 1, Op: api.EvEnd, Err: 30}}
	for _, capacity := range []int{0, 1, 2} {
		l, m := newLog(t, capacity), &model{capacity: capacity}
		for range 2 {
			for _, ev := range bad {
				if e := l.Append(ev); e != api.ErrArg {
					t.Errorf("Append of %v: got %d", ev, e)
				}
				checkLog(t, l, m)
			}
			appends(t, l, m, op(1))
		}
		checkLog(t, l, m)
		// Nothing is kept of what was refused.
		if capacity == 0 && !reflect.DeepEqual(l, &Log{}) {
			t.Errorf("got %v", l)
		}
		for m.append(op(1)) == api.OK {
			l.Append(op(1))
		}
		if e := l.Append(op(1)); e != api.ErrLog {
			t.Errorf("capacity %d: got %d", capacity, e)
		}
		checkLog(t, l, m)
	}
}

// P17.3: events are missed by any number of plugins, which has no other effect.
func TestMiss(t *testing.T) {
	l, m := newLog(t, 1), &model{capacity: 1}
	appends(t, l, m, op(2))
	for i, p := range numbers() {
		for range i {
			l.Miss(p)
			m.missed = append(m.missed, p)
			checkLog(t, l, m)
		}
	}
	appends(t, l, m, op(1))
	appends(t, l, m, op(2))
	checkLog(t, l, m)
}

// steps are the calls of which the tests make sequences: Append of an event, or Miss if Op is 0.
func steps() []api.Event {
	return []api.Event{op(1), op(2), mark(1), {Plugin: 2, Op: api.EvEnd, Arg: 1}, {Plugin: 1, Op: 13}, {Plugin: 1}}
}

func do(t *testing.T, l *Log, m *model, ev api.Event) {
	t.Helper()
	if ev.Op == 0 {
		l.Miss(ev.Plugin)
		m.missed = append(m.missed, ev.Plugin)
	} else {
		appends(t, l, m, ev)
	}
}

// P17.1 to P17.6 and P17.8: all sequences of up to four calls, for small capacities, on new logs and on a zero one.
func TestAllShort(t *testing.T) {
	for capacity := range 3 {
		for n := range 6 * 6 * 6 * 6 {
			for _, l := range []*Log{newLog(t, capacity), {}} {
				m := &model{capacity: capacity}
				if l.capacity != capacity {
					m.capacity = 0
				}
				for rest, left := n, 4; left > 0; left-- {
					do(t, l, m, steps()[rest%6])
					rest /= 6
				}
				checkLog(t, l, m)
			}
		}
	}
}

// randomEvent returns an event of one of a few plugins, which seldom is one that event.Check refuses.
func randomEvent(random *rand.Rand) api.Event {
	list := []int{0, 1, 2, 3, 4, 5, 6, 7, 8, 9, 10, 11, 32, 33}
	ev := api.Event{Plugin: random.Intn(4), Op: list[random.Intn(len(list))], Err: api.Errno(random.Intn(30))}
	if random.Intn(3) == 0 {
		ev.Plugin += 62
	}
	ev.Handle, ev.Arg = api.Handle(random.Uint64()>>random.Intn(65)), random.Uint64()>>random.Intn(65)
	return ev
}

// P17.1 to P17.6 and P17.8: long mixed sequences of calls.
func TestLong(t *testing.T) {
	for seed := range int64(40) {
		random := rand.New(rand.NewSource(seed))
		capacity := []int{0, 1, 5, 20, 65536}[random.Intn(5)]
		l, m := newLog(t, capacity), &model{capacity: capacity}
		for k := range 150 {
			do(t, l, m, randomEvent(random))
			if k%10 == 0 {
				checkLog(t, l, m)
			}
		}
		checkLog(t, l, m)
	}
}

// P17.4 and general rule 7: iterators show the log as it is when a loop begins, can be stopped and used again.
func TestIterators(t *testing.T) {
	l, m := newLog(t, 9), &model{capacity: 9}
	all, query := l.All(), l.Query(2)
	for _, ev := range []api.Event{op(1), op(2), mark(2), op(3), op(2)} {
		appends(t, l, m, ev)
	}
	for range 2 {
		if got := collect(all); !slices.Equal(got, m.query(0)) {
			t.Errorf("All: got %v", got)
		}
		if got := collect(query); !slices.Equal(got, m.query(2)) || got[0].index != 1 || got[1].index != 2 || got[2].index != 4 {
			t.Errorf("Query: got %v", got)
		}
		for _, seq := range []iter.Seq2[int, api.Event]{all, query} {
			n := 0
			for range seq {
				if n++; n == 2 {
					break
				}
			}
			if n != 2 {
				t.Errorf("got %d events before the stop", n)
			}
		}
	}
}

// P17.4: a loop that appends, is refused, or misses events, also in loops within one another.
func TestLoopThatAppends(t *testing.T) {
	for size := range 9 {
		l, m := newLog(t, 12), &model{capacity: 12}
		for range size {
			appends(t, l, m, op(2))
		}
		for _, seq := range []iter.Seq2[int, api.Event]{l.All(), l.Query(2)} {
			want := m.query(2)
			var got []pair
			for i, ev := range seq {
				appends(t, l, m, op(2))
				appends(t, l, m, mark(2))
				inner := m.query(2)
				if list := collect(seq); !slices.Equal(list, inner) {
					t.Errorf("inner loop: got %v, want %v", list, inner)
				}
				got = append(got, pair{i, ev})
			}
			if !slices.Equal(got, want) {
				t.Errorf("got %v, want %v", got, want)
			}
		}
		checkLog(t, l, m)
	}
}

// decodedAsDefined returns what P17.6 says, with the decoder of the standard library, which also reads longer encodings.
func decodedAsDefined(b []byte) ([]api.Event, api.Errno) {
	var list []api.Event
	last := uint64(noDigest)
	for at := 0; at < len(b); {
		n, size, e := numberAsDefined(b[at:])
		if e != api.OK {
			return nil, e
		}
		if n > 65536 {
			return nil, api.ErrBig
		}
		from := at + size
		to := from + int(n)
		if to+8 > len(b) {
			return nil, api.ErrTrunc
		}
		ev, e := eventAsDefined(b[from:to])
		if e != api.OK {
			return nil, e
		}
		last = chain(last, b[from:to])
		if binary.LittleEndian.Uint64(b[to:to+8]) != last {
			return nil, api.ErrChain
		}
		list = append(list, ev)
		at = to + 8
	}
	return list, api.OK
}

// numberAsDefined returns what P2.2 says.
func numberAsDefined(b []byte) (uint64, int, api.Errno) {
	n, size := binary.Uvarint(b)
	if size > 0 && bytes.HasPrefix(b, put(n)) {
		return n, size, api.OK
	}
	ends := slices.ContainsFunc(b, func(c byte) bool { return c < 128 })
	if len(b) < 10 && !ends {
		return 0, 0, api.ErrTrunc
	}
	return 0, 0, api.ErrForm
}

// eventAsDefined returns what P16.3 says.
func eventAsDefined(b []byte) (api.Event, api.Errno) {
	var list []uint64
	for len(list) < 5 {
		n, size, e := numberAsDefined(b)
		if e != api.OK {
			return api.Event{}, e
		}
		list, b = append(list, n), b[size:]
	}
	if len(b) > 0 {
		return api.Event{}, api.ErrForm
	}
	if list[0] > 64 || list[1] > 33 || list[4] > 29 {
		return api.Event{}, api.ErrArg
	}
	ev := api.Event{Plugin: int(list[0]), Op: int(list[1]), Handle: api.Handle(list[2]), Arg: list[3], Err: api.Errno(list[4])}
	if !isEvent(ev) {
		return api.Event{}, api.ErrArg
	}
	return ev, api.OK
}

// checkDecode checks Decode by its definition, and that the bytes are those of a log with these events.
func checkDecode(t *testing.T, b []byte) {
	t.Helper()
	before := slices.Clone(b)
	want, code := decodedAsDefined(b)
	got, e := Decode(b)
	if !slices.Equal(got, want) || e != code {
		t.Fatalf("Decode of %v: got %v and %d, want %v and %d", b, got, e, want, code)
	}
	if !bytes.Equal(b, before) {
		t.Fatalf("Decode of %v has changed them to %v", before, b)
	}
	if e != api.OK {
		return
	}
	l := newLog(t, api.MaxLog)
	for _, ev := range got {
		l.Append(ev)
	}
	if !bytes.Equal(l.Bytes(), b) {
		t.Fatalf("Decode of %v: got %v, the events of %v", b, got, l.Bytes())
	}
}

// fails checks that Decode returns this error and no events.
func fails(t *testing.T, b []byte, e api.Errno) {
	t.Helper()
	if got, code := Decode(b); len(got) > 0 || code != e {
		t.Errorf("Decode of %v: got %v and %d, want %d", b, got, code, e)
	}
	checkDecode(t, b)
}

// P17.6: no bytes contain no events.
func TestDecodeNothing(t *testing.T) {
	for _, b := range [][]byte{nil, {}} {
		if got, e := Decode(b); len(got) > 0 || e != api.OK {
			t.Errorf("got %v and %d", got, e)
		}
	}
}

// P17.6: the errors of a record, each before those that the document names after it, as the first record and as a further one.
func TestDecodeOrder(t *testing.T) {
	good := encode(op(1))
	zeros := make([]byte, 8)
	for _, events := range [][]api.Event{nil, {op(1)}, {mark(2), op(2), op(2)}} {
		b, last := logOf(events...)
		after := func(list ...[]byte) []byte { return slices.Concat(b, slices.Concat(list...)) }
		digestOf := func(x []byte) []byte { return binary.LittleEndian.AppendUint64(nil, chain(last, x)) }
		for _, x := range []struct {
			b []byte
			e api.Errno
		}{
			{after([]byte{128}), api.ErrTrunc},
			{after([]byte{128, 0}), api.ErrForm},
			{after([]byte{128, 0}, zeros), api.ErrForm},
			{after([]byte{129, 128, 4}), api.ErrBig},
			{after([]byte{129, 128, 4}, make([]byte, 65537+8)), api.ErrBig},
			{after([]byte{128, 128, 4}, make([]byte, 65536+7)), api.ErrTrunc},
			{after([]byte{128, 128, 4}, make([]byte, 65536+8)), api.ErrForm},
			{after([]byte{255, 255, 255, 255, 255, 255, 255, 255, 255, 1}, zeros), api.ErrBig},
			{after([]byte{6}, good[:5]), api.ErrTrunc},
			{after([]byte{6}, good), api.ErrTrunc},
			{after([]byte{6}, good, zeros[:7]), api.ErrTrunc},
			{after([]byte{0}), api.ErrTrunc},
			{after([]byte{0}, zeros[:7]), api.ErrTrunc},
			{after([]byte{0}, zeros), api.ErrTrunc},
			{after([]byte{0}, digestOf(nil)), api.ErrTrunc},
			{after([]byte{2, 128, 0}, zeros[:7]), api.ErrTrunc},
			{after([]byte{2, 128, 0}, zeros), api.ErrForm},
			{after([]byte{5, 1, 12, 0, 0, 0}, zeros[:7]), api.ErrTrunc},
			{after([]byte{5, 1, 12, 0, 0, 0}, zeros), api.ErrArg},
			{after([]byte{5, 1, 12, 0, 0, 0}, digestOf([]byte{1, 12, 0, 0, 0})), api.ErrArg},
			{after([]byte{6, 1, 1, 0, 0, 0, 0}, digestOf([]byte{1, 1, 0, 0, 0, 0})), api.ErrForm},
			{after([]byte{6}, good, zeros), api.ErrChain},
			{after([]byte{6}, good, zeros, []byte{128, 0}), api.ErrChain},
			{after([]byte{6}, good, digestOf(good), []byte{128, 0}), api.ErrForm},
			{after([]byte{6}, good, digestOf(good), []byte{0}), api.ErrTrunc},
		} {
			fails(t, x.b, x.e)
		}
		checkBytes(t, filled(t, append(slices.Clone(events), op(1))), append(slices.Clone(events), op(1)))
	}
}

// filled returns a log with these events.
func filled(t *testing.T, events []api.Event) *Log {
	t.Helper()
	l := newLog(t, api.MaxLog)
	for _, ev := range events {
		if e := l.Append(ev); e != api.OK {
			t.Fatalf("Append of %v: got %d", ev, e)
		}
	}
	return l
}

// P17.6: a log that was cut off, or of which a bit was changed, is refused unless it was cut off between two records.
func TestDecodeDamaged(t *testing.T) {
	events := []api.Event{op(1), {Plugin: 2, Op: api.EvStart}, {Plugin: 64, Op: api.OpCopy, Handle: 7 << 56, Arg: math.MaxUint64, Err: api.ErrTag}, op(1)}
	b, _ := logOf(events...)
	ends := []int{0}
	for n := range events {
		part, _ := logOf(events[:n+1]...)
		ends = append(ends, len(part))
	}
	for end := range b {
		checkDecode(t, b[:end])
		want := api.ErrTrunc
		if slices.Contains(ends, end) {
			want = api.OK
		}
		if _, e := Decode(b[:end]); e != want {
			t.Errorf("cut off at %d: got %d, want %d", end, e, want)
		}
	}
	for i := range b {
		for bit := range 8 {
			changed := slices.Clone(b)
			changed[i] ^= 1 << bit
			checkDecode(t, changed)
			if _, e := Decode(changed); e == api.OK {
				t.Errorf("byte %d with the bit %d changed: got no error", i, bit)
			}
		}
	}
}

// P17.6: records that are missing, repeated or in another order break the chain.
func TestDecodeChain(t *testing.T) {
	events := []api.Event{op(1), op(1), op(2)}
	var parts [][]byte
	last := uint64(noDigest)
	for _, ev := range events {
		last = chain(last, encode(ev))
		parts = append(parts, record(encode(ev), last))
	}
	for n := range 4 * 4 * 4 * 4 {
		var b []byte
		inOrder := true
		for k, rest := 0, n; k < 4 && rest%4 < 3; k++ {
			inOrder = inOrder && rest%4 == k
			b = append(b, parts[rest%4]...)
			rest /= 4
		}
		checkDecode(t, b)
		if _, e := Decode(b); inOrder != (e == api.OK) || !inOrder && e != api.ErrChain {
			t.Errorf("records %d: got %d", n, e)
		}
	}
	for _, start := range []uint64{0, 1, fnvSum([]byte{0})} {
		fails(t, record(encode(op(1)), chain(start, encode(op(1)))), api.ErrChain)
	}
	fails(t, record(encode(op(1)), fnvSum(encode(op(1)))), api.ErrChain)
}

// P17.6: byte strings of all kinds in place of an event, with the right digest and others.
func TestDecodeStrings(t *testing.T) {
	list := [][]byte{{}, {0, 0, 0, 0, 0}, {1, 2, 0, 0, 11}, {1, 2, 0, 0}, {1, 2, 0, 0, 11, 0}, {1, 2, 0, 0, 30}, {65, 2, 0, 0, 0}, {1, 2, 128, 0, 0, 0}, {1, 2, 0, 0, 128}, bytes.Repeat([]byte{255}, 200), put(1<<32+1, 2, 0, 0, 0), put(1, 2, math.MaxUint64, math.MaxUint64, 29)}
	for _, x := range list {
		for _, y := range list {
			b, last := records(x, y)
			checkDecode(t, b)
			checkDecode(t, slices.Concat(b, record(encode(op(3)), chain(last, encode(op(3))))))
			b[len(b)-1]++
			checkDecode(t, b)
		}
	}
}

// P17.6: all byte strings of at most five bytes from a few, alone and before the end of a record.
func TestDecodeAllShort(t *testing.T) {
	list := [][]byte{nil}
	for first, length := 0, 0; length < 5; length++ {
		end := len(list)
		for _, b := range list[first:end] {
			for _, c := range []byte{0, 1, 2, 5, 32, 128} {
				list = append(list, append(slices.Clone(b), c))
			}
		}
		first = end
	}
	tail, _ := logOf(mark(1))
	for _, b := range list {
		checkDecode(t, b)
		checkDecode(t, append(b, tail[len(tail)-9:]...))
	}
}

// P17.6: the capacity has no influence; more events of a plugin than any log takes are decoded.
func TestDecodeMany(t *testing.T) {
	var events []api.Event
	for range api.MaxLog + 1 {
		events = append(events, op(7))
	}
	b, _ := logOf(events...)
	if got, e := Decode(b); !slices.Equal(got, events) || e != api.OK {
		t.Errorf("got %d events and %d", len(got), e)
	}
}

// P17.7: a nil log is empty and stays so.
func TestNil(t *testing.T) {
	var l *Log
	for range 2 {
		checkLog(t, l, &model{})
		for _, p := range numbers() {
			l.Miss(p)
		}
		for _, ev := range []api.Event{{}, op(1), mark(1), op(65)} {
			if e := l.Append(ev); e != api.ErrArg {
				t.Errorf("Append of %v: got %d", ev, e)
			}
		}
	}
	if l.Digest() != noDigest || len(l.Bytes()) != 0 {
		t.Errorf("got %d and %v", l.Digest(), l.Bytes())
	}
}

// P17.1: a zero log has the capacity 0, but takes EvStart and EvEnd, and counts what was missed.
func TestZero(t *testing.T) {
	var l Log
	m := &model{}
	checkLog(t, &l, m)
	for _, ev := range []api.Event{op(1), mark(1), op(1), {Plugin: 1, Op: api.EvEnd, Arg: 3, Err: 5}, {Plugin: 9}, {Plugin: -1}} {
		do(t, &l, m, ev)
		checkLog(t, &l, m)
	}
}

// General rule 3: results are new memory, and Decode keeps no reference to its argument.
func TestNewMemory(t *testing.T) {
	events := []api.Event{op(1), mark(2)}
	l := filled(t, events)
	b := l.Bytes()
	clear(b[:cap(b)])
	checkBytes(t, l, events)
	l.Append(op(3))
	if slices.ContainsFunc(b, func(c byte) bool { return c != 0 }) {
		t.Errorf("got %v", b)
	}
	b = l.Bytes()
	got, _ := Decode(b)
	clear(b)
	if want := append(events, op(3)); !slices.Equal(got, want) {
		t.Errorf("got %v, want %v", got, want)
	}
	clear(got)
	checkBytes(t, l, append(events, op(3)))
}

// General rule 6: two logs are independent.
func TestIndependent(t *testing.T) {
	one, other := newLog(t, 1), newLog(t, 2)
	m, n := &model{capacity: 1}, &model{capacity: 2}
	for _, ev := range []api.Event{op(1), {Plugin: 1}, op(2), op(1), mark(3)} {
		do(t, one, m, ev)
		checkLog(t, other, n)
		checkLog(t, one, m)
	}
	do(t, other, n, op(1))
	checkLog(t, one, m)
	checkLog(t, other, n)
}
