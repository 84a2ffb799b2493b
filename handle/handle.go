// Package handle: handles as 64-bit words. See the document, chapter 1.
package handle

import (
	"strconv"
	"strings"

	"pluginhost/api"
)

// The widths of the parts, from the lowest bit of a word on. Together they fill the word, so no two words have the same parts.
const (
	slotBits = 24
	genBits  = 32
	tagBits  = 8

	genShift = slotBits
	tagShift = slotBits + genBits
)

// Pack returns the handle with these parts, or ErrArg if one of them is out of range.
func Pack(slot, gen, tag int) (api.Handle, api.Errno) {
	if !within(slot, 0, api.MaxSlot) || !within(gen, 1, api.MaxGen) || !within(tag, 1, api.MaxTag) {
		return 0, api.ErrArg
	}
	return join(uint64(slot), uint64(gen), uint64(tag)), api.OK
}

// Slot returns the slot that a word names.
func Slot(h api.Handle) int { return int(h & api.MaxSlot) }

// Gen returns the generation that a word names.
func Gen(h api.Handle) int { return int(h >> genShift & api.MaxGen) }

// Tag returns the type tag that a word names.
func Tag(h api.Handle) int { return int(h >> tagShift & api.MaxTag) }

// Valid reports whether Pack can return h.
func Valid(h api.Handle) bool { return Gen(h) != 0 && Tag(h) != 0 }

// Format returns the text SLOT/GEN/TAG of any word.
func Format(h api.Handle) string {
	return strconv.Itoa(Slot(h)) + "/" + strconv.Itoa(Gen(h)) + "/" + strconv.Itoa(Tag(h))
}

// Parse returns the word whose Format is s, or ErrSyntax if there is none. The word need not be valid, since Format takes any word.
func Parse(s string) (api.Handle, api.Errno) {
	first, rest, _ := strings.Cut(s, "/")
	second, third, _ := strings.Cut(rest, "/")
	slot, okSlot := parsePart(first, slotBits)
	gen, okGen := parsePart(second, genBits)
	tag, okTag := parsePart(third, tagBits)
	if !okSlot || !okGen || !okTag {
		return 0, api.ErrSyntax
	}
	return join(slot, gen, tag), api.OK
}

// parsePart returns the number of at most bits bits that Format writes as s. An absent part is an empty s, which is no number.
func parsePart(s string, bits int) (uint64, bool) {
	// Format writes no leading zeros, but ParseUint accepts them.
	if len(s) > 1 && s[0] == '0' {
		return 0, false
	}
	n, err := strconv.ParseUint(s, 10, bits)
	if err != nil {
		return 0, false
	}
	return n, true
}

// join returns the word with these parts, each of which fits its bits.
func join(slot, gen, tag uint64) api.Handle {
	return api.Handle(slot | gen<<genShift | tag<<tagShift)
}

func within(n, low, high int) bool { return low <= n && n <= high }
