package icon

import (
	"slices"

	"glyphic/api"
)

// bounds is what the parts of a command are held against.
type bounds struct {
	far    int64 // the greatest coordinate
	colors int   // how many there are
}

// Check is nil, if i may be; else the first fault in the order of the chapter.
func Check(i api.Icon) error {
	if !sized(i) {
		return api.ErrRange
	}
	if len(i.Colors) > api.MaxColors || len(i.Cmds) > api.MaxCmds {
		return api.ErrLimit
	}
	b := bounds{far: Greatest(i), colors: len(i.Colors)}
	for _, c := range i.Cmds {
		if err := b.checkCmd(c); err != nil {
			return err
		}
	}
	if Points(i) > api.MaxPoints {
		return api.ErrLimit
	}
	if hasTwins(i.Colors) || !usedInOrder(i) {
		return api.ErrCanon
	}
	return nil
}

func (b bounds) checkCmd(c api.Cmd) error {
	if !b.headed(c) {
		return api.ErrRange
	}
	if err := b.checkPaint(c.Paint); err != nil {
		return err
	}
	if len(c.Paths) == 0 {
		return api.ErrRange
	}
	if len(c.Paths) > api.MaxPaths {
		return api.ErrLimit
	}
	for _, p := range c.Paths {
		if p.Closed && c.Kind == api.Fill {
			return api.ErrCanon
		}
		if err := b.checkPath(p); err != nil {
			return err
		}
	}
	return nil
}

// headed tells whether Kind, Rule and Width may stand together.
func (b bounds) headed(c api.Cmd) bool {
	switch c.Kind {
	case api.Fill:
		return (c.Rule == api.EvenOdd || c.Rule == api.NonZero) && c.Width == 0
	case api.Outline:
		return c.Rule == 0 && within(c.Width, 1, b.far)
	}
	return false
}

func (b bounds) checkPaint(p api.Paint) error {
	switch p.Kind {
	case api.Flat:
		return b.checkFlat(p)
	case api.Linear:
		return b.checkLinear(p)
	case api.Radial:
		return b.checkRadial(p)
	}
	return api.ErrRange
}

func (b bounds) checkFlat(p api.Paint) error {
	if !b.isPlace(p.A) {
		return api.ErrRange
	}
	if p.B != 0 || p.P != (api.Point{}) || p.Q != (api.Point{}) {
		return api.ErrCanon
	}
	return nil
}

func (b bounds) checkLinear(p api.Paint) error {
	if !b.isPlace(p.A) || !b.isPlace(p.B) || !b.reaches(p.P) || !b.reaches(p.Q) || p.P == p.Q {
		return api.ErrRange
	}
	return nil
}

func (b bounds) checkRadial(p api.Paint) error {
	if !b.isPlace(p.A) || !b.isPlace(p.B) || !b.reaches(p.P) || !within(p.Q.X, 1, b.far) {
		return api.ErrRange
	}
	if p.Q.Y != 0 {
		return api.ErrCanon
	}
	return nil
}

func (b bounds) isPlace(place int) bool {
	return within(place, 0, b.colors-1)
}

// reaches tells whether no part of p is farther than the greatest coordinate.
func (b bounds) reaches(p api.Point) bool {
	return within(p.X, -b.far, b.far) && within(p.Y, -b.far, b.far)
}

func (b bounds) checkPath(p api.Path) error {
	if len(p.Segs) == 0 {
		return api.ErrRange
	}
	if len(p.Segs) > api.MaxSegs {
		return api.ErrLimit
	}
	if !b.reaches(p.Start) {
		return api.ErrRange
	}
	for _, s := range p.Segs {
		if err := b.checkSeg(s); err != nil {
			return err
		}
	}
	return nil
}

func (b bounds) checkSeg(s api.Seg) error {
	if !isSegKind(s.Kind) {
		return api.ErrRange
	}
	for _, p := range s.P[:s.Kind] {
		if !b.reaches(p) {
			return api.ErrRange
		}
	}
	for _, p := range s.P[s.Kind:] {
		if p != (api.Point{}) {
			return api.ErrCanon
		}
	}
	return nil
}

// hasTwins tells whether two of the colors are the same.
func hasTwins(colors []api.Color) bool {
	for n, c := range colors {
		if slices.Contains(colors[:n], c) {
			return true
		}
	}
	return false
}

// usedInOrder tells whether all colors are used, each for the first time when
// all ahead of it were.
func usedInOrder(i api.Icon) bool {
	used := 0
	for _, c := range i.Cmds {
		// A Flat's B, which is not used, is 0: that place was used ahead of it.
		for _, place := range [2]int{c.Paint.A, c.Paint.B} {
			if place > used {
				return false
			}
			if place == used {
				used++
			}
		}
	}
	return used == len(i.Colors)
}
