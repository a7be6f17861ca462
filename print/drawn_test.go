package print

import (
	"fmt"
	"strings"
	"testing"

	"glyphic/api"
)

// draw is numbers without an end, the same in each run of the tests.
type draw struct{ state uint64 }

// below is a number from 0 to n - 1.
func (d *draw) below(n int) int {
	d.state = d.state*6364136223846793005 + 1442695040888963407
	return int(d.state >> 33 % uint64(n))
}

// of is one of all.
func (d *draw) of(all ...string) string { return all[d.below(len(all))] }

// piece is one that was drawn, twice: word by word as it may be written, and as it is to be.
type piece struct {
	loose []string
	text  string
}

// add is both words behind the piece, a blank ahead in the text.
func (p *piece) add(loose, text string) {
	p.loose = append(p.loose, loose)
	p.text += " " + text
}

func (p *piece) both(words ...string) {
	for _, w := range words {
		p.add(w, w)
	}
}

func (d *draw) name() string {
	if d.below(3) == 0 {
		return fmt.Sprint("name_", d.below(1000000))
	}
	return d.of("a", "b", "z9", "m", "icons", strings.Repeat("long", 6))
}

func (d *draw) number(p *piece) {
	whole := d.of("0", "1", "999999", fmt.Sprint(d.below(100)), fmt.Sprint(d.below(1000000)))
	loose := strings.Repeat("0", d.below(7-len(whole))*d.below(2)) + whole
	text, part := whole, ""
	if d.below(2) == 0 {
		part = fmt.Sprintf("%06d", d.below(1000000))[:1+d.below(6)]
		loose += "." + part
	}
	if part = strings.TrimRight(part, "0"); part != "" {
		text += "." + part
	}
	if d.below(3) == 0 {
		loose = "-" + loose
		if text != "0" {
			text = "-" + text
		}
	}
	p.add(loose, text)
}

func (d *draw) whole(p *piece, below int) {
	n := d.below(below)
	p.add(fmt.Sprintf("%0*d", 1+d.below(6), n), fmt.Sprint(n))
}

func (d *draw) color(p *piece) {
	c := fmt.Sprintf("#%06x", d.below(1<<24))
	switch d.below(3) {
	case 0:
		p.add(c+"ff", c)
	case 1:
		p.both(c + fmt.Sprintf("%02x", d.below(255)))
	default:
		p.both(c)
	}
}

func (d *draw) vals(p *piece, n int) {
	for range n {
		if d.below(2) == 0 {
			p.both(d.name())
		} else {
			d.number(p)
		}
	}
}

func (d *draw) ref(p *piece) {
	if d.below(2) == 0 {
		p.both(d.name())
	} else {
		d.color(p)
	}
}

func (d *draw) path(p *piece) {
	p.both("path")
	for range 1 + d.below(5) {
		k := d.below(7)
		p.both("MLQCABZ"[k : k+1])
		d.vals(p, []int{2, 2, 4, 6, 2, 2, 0}[k])
	}
}

func (d *draw) use(p *piece) {
	p.both("use", d.name(), "at")
	d.vals(p, 2)
	if d.below(2) == 0 {
		p.both("by")
		d.vals(p, 1)
	} else {
		p.text += " by 1"
	}
	if d.below(2) == 0 {
		p.both("turn")
		d.whole(p, 4)
	} else {
		p.text += " turn 0"
	}
}

func (d *draw) items(p *piece) {
	p.both("{")
	p.text += "\n"
	for range d.below(4) {
		p.text += " "
		if d.below(2) == 0 {
			d.path(p)
		} else {
			d.use(p)
		}
		p.loose = append(p.loose, ";")
		p.text += ";\n"
	}
	p.loose = append(p.loose, "}")
	p.text += "}\n"
}

func (d *draw) paint(p *piece) {
	vals := 0
	switch d.below(3) {
	case 0:
		p.both("linear")
		d.ref(p)
		vals = 4
	case 1:
		p.both("radial")
		d.ref(p)
		vals = 3
	}
	d.ref(p)
	d.vals(p, vals)
}

func (d *draw) cmd(p *piece) {
	if d.below(2) == 0 {
		p.both("line")
		d.vals(p, 1)
	} else {
		p.both("fill", d.of("evenodd", "nonzero"))
	}
	d.paint(p)
	d.items(p)
}

// part is one behind the head: which kind it is, by the order in which the kinds are written.
func (d *draw) part() (piece, int) {
	p, kind := piece{}, min(d.below(5), 3)
	switch kind {
	case 0, 1:
		p.both([]string{"const", "color"}[kind], d.name(), "=")
		if kind == 0 {
			d.number(&p)
		} else {
			d.color(&p)
		}
		p.loose = append(p.loose, ";")
		p.text += ";\n"
	case 2:
		p.both("shape", d.name())
		d.items(&p)
	default:
		d.cmd(&p)
	}
	p.text = p.text[1:]
	return p, kind
}

// icon is one as it may be written, and as it is to be.
func (d *draw) icon() (string, string) {
	p := piece{loose: []string{"icon"}, text: "icon"}
	d.whole(&p, 1000000)
	d.whole(&p, 1000000)
	if d.below(2) == 0 {
		p.both("scale")
		d.whole(&p, 1000000)
	} else {
		p.text += " scale 0"
	}
	loose := append(p.loose, ";")
	var kinds [4]string
	for range d.below(12) {
		part, kind := d.part()
		loose = append(loose, part.loose...)
		kinds[kind] += part.text
	}
	return d.spread(loose), p.text + ";\n" + strings.Join(kinds[:], "")
}

// spread is the words with drawn blanks, lines and remarks between them.
func (d *draw) spread(words []string) string {
	s, tight := "", true
	for _, w := range words {
		mark := strings.Contains("{};=", w)
		if !tight && !mark && w[0] != '-' || d.below(3) == 0 {
			s += d.of(" ", "  ", "\t", "\n", "\r\n", "// icon 1 1;\n", " //\n", "\n// ? }\n")
		}
		s += w
		tight = mark
	}
	return s
}

// P11.1, P11.2: drawn icons are written as they are to be, read again as the same, and written the same again.
func TestDrawnIcons(t *testing.T) {
	d := &draw{1}
	for range 3000 {
		s, want := d.icon()
		checkPrinted(t, s, want)
	}
}

// P11.1: two drawn icons are the same just if they are written the same.
func TestDrawnSame(t *testing.T) {
	d := &draw{2}
	var all []api.Src
	var texts []string
	for range 150 {
		s, want := d.icon()
		// Each twice, of a text of its own.
		all = append(all, read(t, s), read(t, "// so\n"+want))
		texts = append(texts, want, want)
	}
	for i, a := range all {
		for j, b := range all {
			if Same(a, b) != (texts[i] == texts[j]) {
				t.Errorf("%s and\n%s: %t", texts[i], texts[j], Same(a, b))
			}
		}
	}
}
