package decode

import (
	"glyphic/api"
)

// A rule answers what is amiss with a number, as it was read: of several
// ErrRange, then ErrCanon, then ErrLimit. It asks ahead of each conversion, as
// the number may be any of 64 bits.

func between(least, most uint64) func(n uint64) error {
	return func(n uint64) error {
		if n < least || n > most {
			return api.ErrRange
		}
		return nil
	}
}

func atMost(most uint64) func(n uint64) error {
	return func(n uint64) error {
		if n > most {
			return api.ErrLimit
		}
		return nil
	}
}

func cmdRule(n uint64) error {
	// The paint's Kind is above bits 0 and 1; an Outline, bit 0, has no Rule, bit 1.
	if n>>2 > api.Radial || n&3 == 3 {
		return api.ErrRange
	}
	return nil
}

func pathsRule(n uint64) error {
	if n == 0 {
		return api.ErrRange
	}
	return atMost(api.MaxPaths)(n)
}

// lengthRule is a width's, and a radius's.
func (r *reader) lengthRule(n uint64) error {
	return between(1, uint64(r.far))(n)
}

func (r *reader) placeRule(n uint64) error {
	if n >= uint64(len(r.colors)) {
		return api.ErrRange
	}
	if n > uint64(r.used) {
		return api.ErrCanon
	}
	return nil
}

func (r *reader) pathRule(n uint64) error {
	if n>>1 == 0 {
		return api.ErrRange
	}
	if n&1 == 1 && !r.closes {
		return api.ErrCanon
	}
	return nil
}

func (p *pathReader) runRule(n uint64) error {
	kind, length := n&3, n>>2
	if kind == 0 || length == 0 {
		return api.ErrRange
	}
	if kind == uint64(p.kind) {
		return api.ErrCanon
	}
	// Segments ahead of points: the product with a length that may be is small.
	if length > uint64(api.MaxSegs-len(p.segs)) || p.points+int(kind*length) > api.MaxPoints {
		return api.ErrLimit
	}
	return nil
}
