package handle

import (
	"math"
	"regexp"
	"strconv"
	"strings"
	"testing"

	"pluginhost/api"
)

// words returns words of all shapes: each bit alone and each bit missing, the bounds of all parts combined, and a spread of mixed bits.
func words() []api.Handle {
	list := []api.Handle{0, math.MaxUint64, 0x0200000001000005}
	for bit := range 64 {
		list = append(list, 1<<bit, ^api.Handle(1<<bit))
	}
	for _, slot := range []api.Handle{0, 1, api.MaxSlot - 1, api.MaxSlot} {
		for _, gen := range []api.Handle{0, 1, api.MaxGen - 1, api.MaxGen} {
			for _, tag := range []api.Handle{0, 1, api.MaxTag - 1, api.MaxTag} {
				list = append(list, slot+gen*(1<<24)+tag*(1<<56))
			}
		}
	}
	mixed := api.Handle(1)
	for range 1000 {
		mixed = mixed*6364136223846793005 + 1442695040888963407
		list = append(list, mixed)
	}
	return list
}

// parts are the parts of a handle.
type parts struct{ slot, gen, tag int }

func (p parts) pack() (api.Handle, api.Errno) { return Pack(p.slot, p.gen, p.tag) }

func partsOf(h api.Handle) parts { return parts{Slot(h), Gen(h), Tag(h)} }

// P1.1
func TestPackPlacesParts(t *testing.T) {
	for _, x := range []struct {
		parts parts
		want  api.Handle
	}{
		{parts{5, 1, 2}, 0x0200000001000005},
		{parts{0, 1, 1}, 0x0100000001000000},
		{parts{api.MaxSlot, 1, 1}, 0x0100000001ffffff},
		{parts{0, api.MaxGen, 1}, 0x01ffffffff000000},
		{parts{0, 1, api.MaxTag}, 0xff00000001000000},
		{parts{api.MaxSlot, api.MaxGen, api.MaxTag}, 0xffffffffffffffff},
		{parts{0x123456, 0x789abcde, 0xf0}, 0xf0789abcde123456},
	} {
		if h, e := x.parts.pack(); h != x.want || e != api.OK {
			t.Errorf("Pack of %v: got %#x and %d, want %#x", x.parts, uint64(h), e, uint64(x.want))
		}
	}
}

// P1.1
func TestPackRefusesPartsOutOfRange(t *testing.T) {
	for _, x := range []parts{
		{-1, 1, 1}, {api.MaxSlot + 1, 1, 1}, {math.MinInt, 1, 1}, {math.MaxInt, 1, 1},
		{0, 0, 1}, {0, -1, 1}, {0, api.MaxGen + 1, 1}, {0, math.MinInt, 1}, {0, math.MaxInt, 1},
		{0, 1, 0}, {0, 1, -1}, {0, 1, api.MaxTag + 1}, {0, 1, math.MinInt}, {0, 1, math.MaxInt},
		{0, 1 << 32, 1}, {0, 1<<32 + 1, 1}, {1 << 24, 1, 1}, {0, 1, 1<<8 + 1},
		{-1, 0, 0}, {api.MaxSlot + 1, api.MaxGen + 1, api.MaxTag + 1}, {0, 0, 0},
	} {
		if h, e := x.pack(); h != 0 || e != api.ErrArg {
			t.Errorf("Pack of %v: got %#x and %d, want 0 and ErrArg", x, uint64(h), e)
		}
	}
}

// P1.2
func TestPartsOfWords(t *testing.T) {
	for _, x := range []struct {
		word  api.Handle
		want  parts
		valid bool
	}{
		{0, parts{0, 0, 0}, false},
		{math.MaxUint64, parts{api.MaxSlot, api.MaxGen, api.MaxTag}, true},
		{0x0200000001000005, parts{5, 1, 2}, true},
		{0xf0789abcde123456, parts{0x123456, 0x789abcde, 0xf0}, true},
		{0x0000000000ffffff, parts{api.MaxSlot, 0, 0}, false},
		{0x00ffffffff000000, parts{0, api.MaxGen, 0}, false},
		{0xff00000000000000, parts{0, 0, api.MaxTag}, false},
		{0x0000000001000000, parts{0, 1, 0}, false},
		{0x0100000000000000, parts{0, 0, 1}, false},
		{0x0100000000ffffff, parts{api.MaxSlot, 0, 1}, false},
		{0x0100000001000000, parts{0, 1, 1}, true},
		{0x8080000000000000, parts{0, 1 << 31, 128}, true},
	} {
		if got := partsOf(x.word); got != x.want {
			t.Errorf("parts of %#x: got %v, want %v", uint64(x.word), got, x.want)
		}
		if got := Valid(x.word); got != x.valid {
			t.Errorf("Valid of %#x: got %v", uint64(x.word), got)
		}
	}
}

// P1.2
func TestValidAsGenAndTag(t *testing.T) {
	for _, h := range words() {
		if got, want := Valid(h), Gen(h) != 0 && Tag(h) != 0; got != want {
			t.Errorf("Valid of %#x: got %v, want %v", uint64(h), got, want)
		}
	}
}

// P1.3
func TestFormatAndParse(t *testing.T) {
	for _, x := range []struct {
		word api.Handle
		text string
	}{
		{0, "0/0/0"},
		{0x0200000001000005, "5/1/2"},
		{0x0000000001000000, "0/1/0"},
		{0x0000000000000001, "1/0/0"},
		{0x0100000000000000, "0/0/1"},
		{0x0a00000064000014, "20/100/10"},
		{math.MaxUint64, "16777215/4294967295/255"},
		{0x0100000001ffffff, "16777215/1/1"},
		{0x01ffffffff000000, "0/4294967295/1"},
		{0xff00000001000000, "0/1/255"},
	} {
		if got := Format(x.word); got != x.text {
			t.Errorf("Format of %#x: got %q, want %q", uint64(x.word), got, x.text)
		}
		if h, e := Parse(x.text); h != x.word || e != api.OK {
			t.Errorf("Parse of %q: got %#x and %d, want %#x", x.text, uint64(h), e, uint64(x.word))
		}
	}
}

// P1.3
func TestParseInvertsFormat(t *testing.T) {
	for _, word := range words() {
		if h, e := Parse(Format(word)); h != word || e != api.OK {
			t.Errorf("Parse of %q: got %#x and %d, want %#x", Format(word), uint64(h), e, uint64(word))
		}
	}
}

// P1.3
func TestParseRefusesOtherTexts(t *testing.T) {
	for _, s := range []string{
		"", "/", "//", "///", "1", "1/2", "1/2/", "/1/2", "1//3", "1/2/3/", "/1/2/3", "1/2/3/4",
		"01/2/3", "1/02/3", "1/2/03", "00/0/0", "0/00/0", "0/0/00",
		"+1/2/3", "1/+2/3", "1/2/+3", "-1/2/3", "1/-2/3", "1/2/-3", "-0/1/1", "0/-0/1", "0/1/-0",
		" 1/2/3", "1/2/3 ", "1 /2/3", "1/ 2/3", "1/2/3\n", "1/2/3\x00", "\t1/2/3",
		"0x1/2/3", "1/0b1/3", "1/2/0o3", "1_0/2/3", "1/1_0/3", "1/2/1_0", "1e1/2/3", "1.0/2/3", "a/b/c", "1/2/f",
		"16777216/1/1", "1/4294967296/1", "1/1/256", "16777217/1/1", "1/1/300", "1/1/1000",
		"99999999999999999999/1/1", "1/99999999999999999999/1", "1/1/99999999999999999999",
		"18446744073709551616/1/1", "18446744073709551621/1/2", "1/18446744073709551617/1", "1/1/18446744073709551617",
		"1,2,3", `1\2\3`, "1/2/\u0663", "\uff11/2/3", "1\u22152\u22153", "1/2/3\xff", "\xff/\xff/\xff",
		strings.Repeat("/", 10000), strings.Repeat("9", 10000) + "/1/1", "1/1/" + strings.Repeat("0", 10000),
	} {
		if h, e := Parse(s); h != 0 || e != api.ErrSyntax {
			t.Errorf("Parse of %.40q: got %#x and %d, want 0 and ErrSyntax", s, uint64(h), e)
		}
	}
}

// P1.3: all short texts of some characters, against a pattern of the form that Format has.
func TestParseOfShortTexts(t *testing.T) {
	form := regexp.MustCompile(`^(0|[1-9][0-9]*)/(0|[1-9][0-9]*)/(0|[1-9][0-9]*)$`)
	texts := []string{""}
	for first, length := 0, 0; length < 7; length++ {
		end := len(texts)
		for _, s := range texts[first:end] {
			for _, c := range "02/+" {
				texts = append(texts, s+string(c))
			}
		}
		first = end
	}
	for _, s := range texts {
		h, e := Parse(s)
		if !form.MatchString(s) {
			if h != 0 || e != api.ErrSyntax {
				t.Errorf("Parse of %q: got %#x and %d, want 0 and ErrSyntax", s, uint64(h), e)
			}
		} else if e != api.OK || Format(h) != s {
			t.Errorf("Parse of %q: got %s and %d", s, Format(h), e)
		}
	}
}

// P1.3: the greatest value of each part, and the values next to it.
func TestParseAtBounds(t *testing.T) {
	for i, high := range []uint64{api.MaxSlot, api.MaxGen, api.MaxTag} {
		for n := high - 2; n <= high+2; n++ {
			text := []string{"7", "7", "7"}
			text[i] = strconv.FormatUint(n, 10)
			s := strings.Join(text, "/")
			h, e := Parse(s)
			if n > high && (h != 0 || e != api.ErrSyntax) {
				t.Errorf("Parse of %q: got %#x and %d, want 0 and ErrSyntax", s, uint64(h), e)
			}
			if n <= high && (e != api.OK || Format(h) != s) {
				t.Errorf("Parse of %q: got %s and %d", s, Format(h), e)
			}
		}
	}
}

// P1.4
func TestPackedPartsComeBack(t *testing.T) {
	for _, slot := range []int{0, 1, 255, 1 << 16, api.MaxSlot - 1, api.MaxSlot} {
		for _, gen := range []int{1, 2, 1 << 24, 1 << 31, api.MaxGen - 1, api.MaxGen} {
			for tag := 1; tag <= api.MaxTag; tag++ {
				want := parts{slot, gen, tag}
				h, e := want.pack()
				if e != api.OK || partsOf(h) != want || !Valid(h) {
					t.Errorf("Pack of %v: got %#x with the parts %v, and %d", want, uint64(h), partsOf(h), e)
				}
			}
		}
	}
}

// P1.4
func TestPartsDetermineWord(t *testing.T) {
	seen := map[parts]api.Handle{}
	for _, h := range words() {
		other, ok := seen[partsOf(h)]
		if ok && other != h {
			t.Errorf("%#x and %#x have the same parts", uint64(other), uint64(h))
		}
		seen[partsOf(h)] = h
	}
}

// P1.4
func TestPackReturnsValidWordsOnly(t *testing.T) {
	for _, word := range words() {
		h, e := partsOf(word).pack()
		if Valid(word) && (h != word || e != api.OK) {
			t.Errorf("Pack of the parts of %#x: got %#x and %d", uint64(word), uint64(h), e)
		}
		if !Valid(word) && (h != 0 || e != api.ErrArg) {
			t.Errorf("Pack of the parts of %#x: got %#x and %d, want 0 and ErrArg", uint64(word), uint64(h), e)
		}
	}
}

func FuzzParse(f *testing.F) {
	for _, s := range []string{"5/1/2", "0/0/0", "01/2/3", "1/2/3/4", ""} {
		f.Add(s)
	}
	f.Fuzz(func(t *testing.T, s string) {
		h, e := Parse(s)
		if e == api.OK && Format(h) != s {
			t.Errorf("Parse of %q returned the word of %q", s, Format(h))
		}
		if e != api.OK && (e != api.ErrSyntax || h != 0) {
			t.Errorf("Parse of %q: got %#x and %d", s, uint64(h), e)
		}
	})
}
