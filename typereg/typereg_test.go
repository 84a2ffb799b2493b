package typereg

import (
	"math"
	"math/rand"
	"slices"
	"testing"

	"pluginhost/api"
	"pluginhost/layout"
	"pluginhost/typecode"
)

func text(count int) api.Field { return api.Field{Kind: api.String, Count: count} }

func number(kind int) api.Field { return api.Field{Kind: kind} }

func record(fields ...api.Field) api.Type { return api.Type{Fields: fields} }

func array(n int, field api.Field) api.Type { return api.Type{Len: n, Fields: []api.Field{field}} }

func sameType(x, y api.Type) bool { return x.Len == y.Len && slices.Equal(x.Fields, y.Fields) }

// tagged is what a loop over All yields.
type tagged struct {
	tag int
	typ api.Type
}

func sameTagged(x, y tagged) bool { return x.tag == y.tag && sameType(x.typ, y.typ) }

// withTags returns a list with the tags 1, 2 and so on.
func withTags(types []api.Type) []tagged {
	var list []tagged
	for i, typ := range types {
		list = append(list, tagged{i + 1, typ})
	}
	return list
}

func collect(r *Registry) []tagged {
	var list []tagged
	for tag, typ := range r.All() {
		list = append(list, tagged{tag, typ})
	}
	return list
}

func checkRegister(t *testing.T, r *Registry, typ api.Type, tag int, want api.Errno) {
	t.Helper()
	if got, code := r.Register(typ); got != tag || code != want {
		t.Errorf("Register of %v: got %d and %d, want %d and %d", typ, got, code, tag, want)
	}
}

func checkNoTag(t *testing.T, r *Registry, tag int) {
	t.Helper()
	if typ, code := r.Lookup(tag); typ.Len != 0 || typ.Fields != nil || code != api.ErrType {
		t.Errorf("Lookup of %d: got %v and %d, want ErrType", tag, typ, code)
	}
}

// checkTypes checks that a registry contains exactly these types, by all ways to see it.
func checkTypes(t *testing.T, r *Registry, types []api.Type) {
	t.Helper()
	if got := r.Len(); got != len(types) {
		t.Errorf("Len: got %d, want %d", got, len(types))
	}
	for i, want := range types {
		if typ, code := r.Lookup(i + 1); !sameType(typ, want) || code != api.OK {
			t.Errorf("Lookup of %d: got %v and %d, want %v", i+1, typ, code, want)
		}
	}
	for _, tag := range []int{math.MinInt, math.MinInt + 1, -1 << 32, -256, -1, 0, len(types) + 1, len(types) + 2, 256, 257, 1 << 32, 1<<32 + 1, math.MaxInt} {
		checkNoTag(t, r, tag)
	}
	if got := collect(r); !slices.EqualFunc(got, withTags(types), sameTagged) {
		t.Errorf("All: got %v, want %v", got, withTags(types))
	}
}

// filled returns a registry with these types, which are all different.
func filled(t *testing.T, types []api.Type) *Registry {
	t.Helper()
	r := New()
	for i, typ := range types {
		checkRegister(t, r, typ, i+1, api.OK)
	}
	return r
}

// several returns n types that are different.
func several(n int) []api.Type {
	var types []api.Type
	for i := range n {
		switch i % 3 {
		case 0:
			types = append(types, record(text(i+1)))
		case 1:
			types = append(types, array(i, number(api.U8)))
		default:
			types = append(types, record(number(api.Word), text(i)))
		}
	}
	return types
}

// wrongTypes returns types that layout.Check refuses, with its error.
func wrongTypes() map[api.Errno][]api.Type {
	return map[api.Errno][]api.Type{
		api.ErrForm: {
			{}, {Fields: []api.Field{}}, {Len: 1}, array(-1, number(api.U8)), array(math.MinInt, number(9)),
			{Len: 2, Fields: []api.Field{number(api.U8), number(api.U8)}},
			record(text(0)), record(text(-1)), record(api.Field{Kind: api.U8, Count: 1}),
		},
		api.ErrBig: {
			array(api.MaxElements+1, number(api.U8)), array(math.MaxInt, number(9)),
			array(api.MaxElements, number(api.U16)), record(text(api.MaxObject + 1)), record(text(api.MaxObject), number(api.U8)),
			record(slices.Repeat([]api.Field{number(api.U8)}, api.MaxFields+1)...),
			record(slices.Repeat([]api.Field{number(9)}, api.MaxFields+1)...),
		},
		api.ErrKind: {
			record(number(0)), record(number(-1)), record(number(7)), record(number(1<<32 + 1)),
			record(number(api.U8), number(9)), array(3, number(9)),
		},
	}
}

// The example of the document.
func TestExample(t *testing.T) {
	r := New()
	one, other := record(number(api.U8)), array(4, number(api.Word))
	checkRegister(t, r, one, 1, api.OK)
	checkRegister(t, r, other, 2, api.OK)
	checkRegister(t, r, one, 1, api.OK)
	checkTypes(t, r, []api.Type{one, other})
}

// P10.1, P10.2: a new and a zero Registry contain no types, and both work alike.
func TestEmpty(t *testing.T) {
	for _, r := range []*Registry{New(), {}} {
		checkTypes(t, r, nil)
		checkRegister(t, r, record(number(api.U8)), 1, api.OK)
		checkTypes(t, r, []api.Type{record(number(api.U8))})
	}
	checkTypes(t, New(), nil)
}

// P10.1, P10.3: types that differ in a single number, in the order or the number of their fields, or in Len alone are different.
func TestTypesThatDifferALittle(t *testing.T) {
	u8, u64, word := number(api.U8), number(api.U64), number(api.Word)
	types := []api.Type{
		record(u8), array(1, u8), array(2, u8), array(3, u8), array(api.MaxElements, u8),
		record(u8, u8), record(u8, u8, u8),
		record(u64), record(word), array(1, u64), array(1, word), array(2, word),
		record(u8, u64), record(u64, u8), record(u8, word), record(word, u8),
		record(text(1)), record(text(2)), record(text(8)), record(text(256)), record(text(257)), record(text(api.MaxObject)), array(1, text(1)), array(1, text(2)), array(2, text(1)),
		record(text(1), text(2)), record(text(2), text(1)), record(text(12)), record(text(1), text(1)), record(text(1), u8), record(u8, text(1)),
		record(slices.Repeat([]api.Field{u8}, api.MaxFields-1)...),
		record(slices.Repeat([]api.Field{u8}, api.MaxFields)...),
		record(append(slices.Repeat([]api.Field{u8}, api.MaxFields-1), text(1))...),
		record(append([]api.Field{text(1)}, slices.Repeat([]api.Field{u8}, api.MaxFields-1)...)...),
	}
	r := filled(t, types)
	for range 2 {
		for i, typ := range types {
			checkRegister(t, r, typ, i+1, api.OK)
			equal := api.Type{Len: typ.Len, Fields: append(make([]api.Field, 0, 50), typ.Fields...)}
			checkRegister(t, r, equal, i+1, api.OK)
		}
	}
	checkTypes(t, r, types)
}

// P10.1, P10.3: every tag from 1 to MaxTag is assigned, in the order of the types, and then no further one.
func TestAllTags(t *testing.T) {
	types := several(api.MaxTag)
	r := New()
	for i, typ := range types {
		checkRegister(t, r, typ, i+1, api.OK)
		for k, known := range types[:i+1] {
			checkRegister(t, r, known, k+1, api.OK)
		}
		checkTypes(t, r, types[:i+1])
	}
	for range 3 {
		checkRegister(t, r, record(number(api.U8)), 0, api.ErrBig)
		checkRegister(t, r, array(api.MaxElements, number(api.U8)), 0, api.ErrBig)
		checkTypes(t, r, types)
	}
	for i, typ := range slices.Backward(types) {
		checkRegister(t, r, typ, i+1, api.OK)
	}
	checkTypes(t, r, types)
}

// P10.1: the error of layout.Check comes before all others, for an empty, a full and a nil registry, and uses up no tag.
func TestWrongTypes(t *testing.T) {
	for _, n := range []int{0, 1, api.MaxTag - 1, api.MaxTag} {
		types := several(n)
		r := filled(t, types)
		for want, list := range wrongTypes() {
			for _, typ := range list {
				if code := layout.Check(typ); code != want {
					t.Fatalf("layout.Check of %v is %d", typ, code)
				}
				checkRegister(t, r, typ, 0, want)
				checkRegister(t, nil, typ, 0, want)
			}
		}
		checkTypes(t, r, types)
		if n < api.MaxTag {
			checkRegister(t, r, record(number(api.U8)), n+1, api.OK)
		}
	}
}

// P10.1, P10.2: nothing is registered in a nil Registry.
func TestNil(t *testing.T) {
	var r *Registry
	for range 2 {
		checkRegister(t, r, record(number(api.U8)), 0, api.ErrArg)
		checkRegister(t, r, array(api.MaxElements, number(api.U8)), 0, api.ErrArg)
		checkTypes(t, r, nil)
	}
}

// P10.2 and general rule 7: an iterator can be stopped anywhere, used again, and used within its own loop.
func TestAllStopsAndStartsAgain(t *testing.T) {
	types := several(6)
	r := filled(t, types)
	seq := r.All()
	for stop := range types {
		var got []tagged
		for tag, typ := range seq {
			got = append(got, tagged{tag, typ})
			if len(got) > stop {
				break
			}
		}
		if want := withTags(types[:stop+1]); !slices.EqualFunc(got, want, sameTagged) {
			t.Errorf("stopped at %d: got %v, want %v", stop, got, want)
		}
	}
	rounds := 0
	for outer := range seq {
		rounds++
		inner := 0
		for tag, typ := range seq {
			inner++
			if tag != inner || !sameType(typ, types[tag-1]) {
				t.Errorf("round %d of the inner loop in round %d: got %d and %v", inner, outer, tag, typ)
			}
		}
		if outer != rounds || inner != len(types) {
			t.Errorf("round %d: the outer tag is %d, and the inner loop has %d rounds", rounds, outer, inner)
		}
	}
	if rounds != len(types) {
		t.Errorf("the outer loop has %d rounds", rounds)
	}
	checkTypes(t, r, types)
}

// P10.2 and general rule 7: a loop shows the types as they are when it begins, not when All is called, whatever is registered within it.
func TestAllAsTheLoopBegins(t *testing.T) {
	types := several(40)
	r := New()
	seq := r.All()
	for start := 0; start < 40; start += 4 {
		for _, typ := range types[start : start+2] {
			r.Register(typ)
		}
		var got []tagged
		for tag, typ := range seq {
			got = append(got, tagged{tag, typ})
			// The first two rounds register two further types.
			if tag <= 2 {
				r.Register(types[start+1+tag])
			}
		}
		if want := withTags(types[:start+2]); !slices.EqualFunc(got, want, sameTagged) {
			t.Errorf("from %d on: got %v, want %v", start, got, want)
		}
		checkTypes(t, r, types[:start+4])
	}
}

// P10.1 and general rule 3: an argument is neither changed nor kept, together with what lies behind it in memory.
func TestArguments(t *testing.T) {
	r := New()
	fields := []api.Field{number(api.U8), text(300), number(9)}
	before := slices.Clone(fields)
	checkRegister(t, r, record(fields[:2]...), 1, api.OK)
	checkRegister(t, r, record(fields[:2]...), 1, api.OK)
	checkRegister(t, r, record(fields...), 0, api.ErrKind)
	if !slices.Equal(fields, before) {
		t.Errorf("got the fields %v, want %v", fields, before)
	}
	fields[0], fields[1] = number(api.U64), number(api.U64)
	checkTypes(t, r, []api.Type{record(before[:2]...)})
	checkRegister(t, r, record(fields[:2]...), 2, api.OK)
	checkRegister(t, r, record(before[:2]...), 1, api.OK)
	checkTypes(t, r, []api.Type{record(before[:2]...), record(number(api.U64), number(api.U64))})
}

// P10.2 and general rule 3: what Lookup and All return is new memory.
func TestResults(t *testing.T) {
	types := several(5)
	r := filled(t, several(5))
	for tag := 1; tag <= 5; tag++ {
		typ, _ := r.Lookup(tag)
		for i := range typ.Fields {
			typ.Fields[i] = number(9)
		}
		_ = append(typ.Fields, number(9))
		checkTypes(t, r, types)
	}
	for range 2 {
		for tag, typ := range r.All() {
			if !sameType(typ, types[tag-1]) {
				t.Errorf("All: got %v for %d, want %v", typ, tag, types[tag-1])
			}
			typ.Fields[0] = number(9)
		}
	}
	checkTypes(t, r, types)
	for i, typ := range types {
		checkRegister(t, r, typ, i+1, api.OK)
	}
}

// General rule 6: registries are independent.
func TestRegistriesAreIndependent(t *testing.T) {
	types := several(8)
	one, other := filled(t, types[:3]), filled(t, types[4:])
	checkRegister(t, one, types[6], 4, api.OK)
	checkRegister(t, other, types[0], 5, api.OK)
	checkTypes(t, one, append(slices.Clone(types[:3]), types[6]))
	checkTypes(t, other, append(slices.Clone(types[4:]), types[0]))
}

// model is a registry by its definition, in which two types are equal if their encodings are.
type model struct {
	tags  map[string]int
	types []api.Type
}

func (m *model) register(typ api.Type) (int, api.Errno) {
	b, code := typecode.Encode(typ)
	if code != api.OK {
		return 0, code
	}
	if tag, ok := m.tags[string(b)]; ok {
		return tag, api.OK
	}
	if len(m.types) == 255 {
		return 0, api.ErrBig
	}
	m.types = append(m.types, typ)
	m.tags[string(b)] = len(m.types)
	return len(m.types), api.OK
}

// randomType returns one of some hundred types, or one with an error.
func randomType(r *rand.Rand) api.Type {
	typ := api.Type{}
	if r.Intn(2) == 0 {
		typ.Len = 1 + r.Intn(20)
	}
	if r.Intn(20) == 0 {
		typ.Len = []int{-1, 2, api.MaxElements, api.MaxElements + 1}[r.Intn(4)]
	}
	for range 1 + r.Intn(3) {
		f := number(1 + r.Intn(6))
		if f.Kind == api.String {
			f.Count = 1 + r.Intn(4)
		}
		if r.Intn(50) == 0 {
			f.Kind, f.Count = r.Intn(9), r.Intn(3)-1
		}
		typ.Fields = append(typ.Fields, f)
		if typ.Len > 0 && r.Intn(10) > 0 {
			break
		}
	}
	return typ
}

// P10.1, P10.2, P10.3: long sequences of calls, up to a full registry.
func TestSequences(t *testing.T) {
	for seed := range int64(30) {
		random := rand.New(rand.NewSource(seed))
		r, m := New(), &model{tags: map[string]int{}}
		for step := range 2000 {
			typ := randomType(random)
			tag, code := m.register(typ)
			checkRegister(t, r, typ, tag, code)
			if step%50 == 0 {
				checkTypes(t, r, m.types)
			}
		}
		checkTypes(t, r, m.types)
		if len(m.types) != api.MaxTag {
			t.Errorf("seed %d: the registry is not full: %d types", seed, len(m.types))
		}
		if t.Failed() {
			return
		}
	}
}
