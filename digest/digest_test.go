package digest

import (
	"bytes"
	"encoding/binary"
	"hash/fnv"
	"math"
	"slices"
	"testing"

	"pluginhost/api"
)

// emptySum is the digest of no bytes, as P3.1 gives it.
const emptySum = 14695981039346656037

// texts returns byte strings of many lengths, with each byte alone and with mixed ones.
func texts() [][]byte {
	list := [][]byte{nil, {}, []byte("a"), []byte("foobar"), make([]byte, 300), bytes.Repeat([]byte{255}, 300), make([]byte, 1<<16)}
	for c := range 256 {
		list = append(list, []byte{byte(c)}, []byte{0, byte(c)}, []byte{byte(c), 0})
	}
	mixed := uint64(1)
	for length := range 100 {
		var b []byte
		for range length {
			mixed = mixed*6364136223846793005 + 1442695040888963407
			b = append(b, byte(mixed>>56))
		}
		list = append(list, b)
	}
	return list
}

// words returns each bit alone, each bit missing, and words whose bytes all differ.
func words() []uint64 {
	list := []uint64{0, math.MaxUint64, emptySum, 0x0807060504030201, 0xf0debc9a78563412}
	for bit := range 64 {
		list = append(list, 1<<bit, ^uint64(1<<bit))
	}
	return list
}

// chains returns lists of records: of no record, of empty ones, of equal ones and of different ones.
func chains() [][][]byte {
	return [][][]byte{
		nil,
		{},
		{nil},
		{{}},
		{nil, nil, nil},
		{{0}},
		{{1}, nil, {2, 3}},
		{{1}, {2, 3}},
		{{1, 2}, {3}},
		{{1, 2, 3}},
		{{7}, {7}, {7}, {7}},
		texts(),
	}
}

// fnvOf returns the digest of the standard library.
func fnvOf(b []byte) uint64 {
	h := fnv.New64a()
	h.Write(b)
	return h.Sum64()
}

// chainOf returns the digest of P3.2, with the digest of the standard library.
func chainOf(prev uint64, record []byte) uint64 {
	return fnvOf(append(binary.LittleEndian.AppendUint64(nil, prev), record...))
}

// digestsOf returns the digests of P3.3, with the digest of the standard library.
func digestsOf(records [][]byte) []uint64 {
	var list []uint64
	last := uint64(emptySum)
	for _, record := range records {
		last = chainOf(last, record)
		list = append(list, last)
	}
	return list
}

func copyRecords(records [][]byte) [][]byte {
	var list [][]byte
	for _, record := range records {
		list = append(list, bytes.Clone(record))
	}
	return list
}

func sameRecords(a, b [][]byte) bool { return slices.EqualFunc(a, b, bytes.Equal) }

func checkVerify(t *testing.T, records [][]byte, digests []uint64, index int, want api.Errno) {
	t.Helper()
	if i, e := Verify(records, digests); i != index || e != want {
		t.Errorf("Verify of %d records and %d digests: got %d and %d, want %d and %d", len(records), len(digests), i, e, index, want)
	}
}

// P3.1
func TestSum(t *testing.T) {
	for _, x := range []struct {
		b    []byte
		want uint64
	}{
		{nil, emptySum},
		{[]byte{}, emptySum},
		{[]byte("a"), 12638187200555641996},
		{[]byte("foobar"), 9625390261332436968},
		{[]byte{0}, 12638153115695167455},
		// These bytes are known to bring the digest to 0.
		{[]byte{0xd5, 0x6b, 0xb9, 0x53, 0x42, 0x87, 0x08, 0x36}, 0},
	} {
		if got := Sum(x.b); got != x.want {
			t.Errorf("Sum of %v: got %d, want %d", x.b, got, x.want)
		}
	}
	for _, b := range texts() {
		if got, want := Sum(b), fnvOf(b); got != want {
			t.Errorf("Sum of %.20v: got %d, want %d", b, got, want)
		}
	}
}

// P3.2
func TestChain(t *testing.T) {
	if got, want := Chain(0x0807060504030201, []byte{9, 10}), Sum([]byte{1, 2, 3, 4, 5, 6, 7, 8, 9, 10}); got != want {
		t.Errorf("Chain: got %d, want %d", got, want)
	}
	if got, want := Chain(0, nil), Sum(make([]byte, 8)); got != want {
		t.Errorf("Chain of 0 and no record: got %d, want %d", got, want)
	}
	for _, prev := range words() {
		for _, record := range [][]byte{nil, {}, {0}, {255}, {1, 2, 3}, []byte("foobar")} {
			if got, want := Chain(prev, record), chainOf(prev, record); got != want {
				t.Errorf("Chain of %#x and %v: got %d, want %d", prev, record, got, want)
			}
		}
	}
	for _, record := range texts() {
		if got, want := Chain(emptySum, record), chainOf(emptySum, record); got != want {
			t.Errorf("Chain of Sum of no bytes and %.20v: got %d, want %d", record, got, want)
		}
	}
}

// P3.3
func TestDigests(t *testing.T) {
	first := Chain(Sum(nil), []byte{1})
	second := Chain(first, nil)
	third := Chain(second, []byte{2, 3})
	if got, want := Digests([][]byte{{1}, nil, {2, 3}}), []uint64{first, second, third}; !slices.Equal(got, want) {
		t.Errorf("got %v, want %v", got, want)
	}
	for _, records := range chains() {
		if got, want := Digests(records), digestsOf(records); !slices.Equal(got, want) {
			t.Errorf("Digests of %d records: got %.5v, want %.5v", len(records), got, want)
		}
	}
}

// P3.4
func TestVerifyAcceptsDigests(t *testing.T) {
	for _, records := range chains() {
		checkVerify(t, records, digestsOf(records), -1, api.OK)
	}
	checkVerify(t, nil, []uint64{}, -1, api.OK)
	checkVerify(t, [][]byte{}, nil, -1, api.OK)
}

// P3.4: the length comes before the digests, which would also differ.
func TestVerifyRefusesOtherLengths(t *testing.T) {
	for _, records := range chains() {
		right := digestsOf(records)
		checkVerify(t, records, append(slices.Clone(right), 0), -1, api.ErrArg)
		checkVerify(t, records, append([]uint64{0}, right...), -1, api.ErrArg)
		if len(records) > 0 {
			checkVerify(t, records, nil, -1, api.ErrArg)
			checkVerify(t, records, right[:len(right)-1], -1, api.ErrArg)
			checkVerify(t, records[1:], right, -1, api.ErrArg)
		}
	}
	checkVerify(t, [][]byte{{1}, {2}}, []uint64{0}, -1, api.ErrArg)
	checkVerify(t, nil, []uint64{emptySum}, -1, api.ErrArg)
}

// P3.4: one digest that differs is found, whatever the bit, though those that follow it are right.
func TestVerifyFindsDigest(t *testing.T) {
	records := [][]byte{{1}, nil, {2, 3}, {4}}
	for i := range records {
		for bit := range 64 {
			digests := digestsOf(records)
			digests[i] ^= 1 << bit
			checkVerify(t, records, digests, i, api.ErrChain)
		}
	}
}

// P3.4: the first one of several is found.
func TestVerifyFindsFirst(t *testing.T) {
	records := texts()[:20]
	for first := range records {
		for second := range records[:first] {
			digests := digestsOf(records)
			digests[first]++
			digests[second]--
			checkVerify(t, records, digests, second, api.ErrChain)
		}
	}
	checkVerify(t, [][]byte{{1}, {2}}, []uint64{0, 0}, 0, api.ErrChain)
	checkVerify(t, [][]byte{nil}, []uint64{emptySum}, 0, api.ErrChain)
}

// P3.4: a digest that continues a wrong one does not follow the chain either, and the wrong one comes first.
func TestVerifyFindsOtherChain(t *testing.T) {
	records := [][]byte{{1}, {2}, {3}, {4}, {5}}
	for i := range records {
		other := copyRecords(records)
		other[i] = append(other[i], 0)
		checkVerify(t, records, digestsOf(other), i, api.ErrChain)
	}
	checkVerify(t, [][]byte{{1, 2}, {3}}, digestsOf([][]byte{{1}, {2, 3}}), 0, api.ErrChain)
}

// P3.5
func TestDigestsOfPrefix(t *testing.T) {
	for _, records := range chains() {
		all := Digests(records)
		for n := range len(records) + 1 {
			if got := Digests(records[:n]); !slices.Equal(got, all[:n]) {
				t.Errorf("Digests of the first %d of %d records are no prefix", n, len(records))
			}
		}
	}
}

// P3.5
func TestLastDigestFollowsFromTheOneBefore(t *testing.T) {
	for _, records := range chains() {
		all := Digests(records)
		for i := 1; i < len(all); i++ {
			if want := Chain(all[i-1], records[i]); all[i] != want {
				t.Errorf("digest %d: got %d, want %d", i, all[i], want)
			}
		}
	}
}

// P3.5: two different records were searched for that have the same digest; what follows them has the same digests, too.
func TestLastDigestIgnoresRecordsWithSameDigest(t *testing.T) {
	one := binary.LittleEndian.AppendUint64(nil, 0x736f5111762e54f8)
	other := binary.LittleEndian.AppendUint64(nil, 0x767d68df5aafb4b5)
	for _, rest := range chains() {
		a := Digests(append([][]byte{one}, rest...))
		b := Digests(append([][]byte{other}, rest...))
		if a[0] != 12947156025013161372 || !slices.Equal(a, b) {
			t.Errorf("after records with the digests %d and %d, the digests differ", a[0], b[0])
		}
	}
}

// General rules 3 and 4: the arguments stay as they are, and results are new memory.
func TestArgumentsStay(t *testing.T) {
	for _, records := range chains() {
		before := copyRecords(records)
		digests := Digests(records)
		again := Digests(records)
		Verify(records, digests)
		if !slices.Equal(digests, again) {
			t.Errorf("a second call or Verify changed the digests of %d records", len(records))
		}
		for _, record := range records {
			Sum(record)
			Chain(1, record)
		}
		for i := range digests {
			digests[i] = 0
		}
		if !sameRecords(records, before) {
			t.Errorf("%d records changed", len(records))
		}
		if !slices.Equal(again, digestsOf(records)) {
			t.Errorf("two results of %d records share memory", len(records))
		}
	}
}

// General rule 3: bytes behind the end of a slice are neither read nor written.
func TestCapacityHasNoInfluence(t *testing.T) {
	b := []byte{1, 2, 3, 4, 5, 6, 7, 8, 9, 10}
	if Sum(b[:2]) != Sum([]byte{1, 2}) || Chain(5, b[:2]) != Chain(5, []byte{1, 2}) {
		t.Error("the digest depends on bytes behind the end")
	}
	if !bytes.Equal(b, []byte{1, 2, 3, 4, 5, 6, 7, 8, 9, 10}) {
		t.Errorf("the bytes changed: %v", b)
	}
}

func FuzzDigests(f *testing.F) {
	f.Add([]byte(nil), []byte(nil), uint64(0))
	f.Add([]byte("a"), []byte("foobar"), uint64(emptySum))
	f.Fuzz(func(t *testing.T, a, b []byte, prev uint64) {
		if Sum(a) != fnvOf(a) || Chain(prev, a) != chainOf(prev, a) {
			t.Errorf("Sum or Chain of %v is wrong", a)
		}
		records := [][]byte{a, b}
		digests := digestsOf(records)
		if !slices.Equal(Digests(records), digests) {
			t.Errorf("Digests of %v are wrong", records)
		}
		checkVerify(t, records, digests, -1, api.OK)
		if prev != digests[1] {
			checkVerify(t, records, []uint64{digests[0], prev}, 1, api.ErrChain)
		}
	})
}
