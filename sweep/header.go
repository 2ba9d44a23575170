package sweep

import "derrick/api"

// The kinds of a block.
const (
	Data = iota + 1
	Refs
	Behind
	Masked
)

const (
	maxSize = api.MaxSlots + 63
	maxMask = 1<<api.MaxFields - 1
)

// A header's bits from the lowest on: the size, the mask, the kind. With the kind at the top every header is greater than any address, so that neither is taken for the other.
const (
	maskFrom = 15
	kindFrom = maskFrom + api.MaxFields
)

// Header makes a header.
func Header(kind int, size int, mask int) int {
	if kind < Data || kind > Masked || size < 0 || size > maxSize || mask < 0 || mask > maxMask {
		return 0
	}
	return kind<<kindFrom | mask<<maskFrom | size
}

// Open takes one apart.
func Open(header int) (kind int, size int, mask int, ok bool) {
	kind = header >> kindFrom
	mask = header >> maskFrom & maxMask
	size = header & (1<<maskFrom - 1)
	if header == 0 || Header(kind, size, mask) != header {
		return 0, 0, 0, false
	}
	return kind, size, mask, true
}

// tells says whether the word k behind a header may be a reference.
func tells(kind int, mask int, k int) bool {
	switch kind {
	case Refs:
		return true
	case Behind:
		return k >= mask
	case Masked:
		return mask>>k&1 == 1
	}
	return false
}
