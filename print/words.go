package print

import (
	"strconv"

	"glyphic/api"
	"glyphic/color"
	"glyphic/number"
)

// none stands where the language has no word, as no parser makes such a one.
// No word begins so: the text is refused, and not read as something else.
const none = "?"

const radialVals = 3 // the last of a radial paint's V is not written

func cmd(c api.SrcCmd) []string {
	switch c.Kind {
	case api.Fill:
		return append([]string{"fill", rule(c.Rule)}, paint(c.Paint)...)
	case api.Outline:
		return append([]string{"line", val(c.Width)}, paint(c.Paint)...)
	}
	return []string{none}
}

func rule(r int) string {
	switch r {
	case api.EvenOdd:
		return "evenodd"
	case api.NonZero:
		return "nonzero"
	}
	return none
}

func paint(p api.SrcPaint) []string {
	switch p.Kind {
	case api.Flat:
		return []string{ref(p.A)}
	case api.Linear:
		return vals([]string{"linear", ref(p.A), ref(p.B)}, p.V[:])
	case api.Radial:
		return vals([]string{"radial", ref(p.A), ref(p.B)}, p.V[:radialVals])
	}
	return []string{none}
}

func item(x api.Item) []string {
	if x.Use {
		return use(x)
	}
	return path(x)
}

func path(x api.Item) []string {
	words := []string{"path"}
	for _, s := range x.Steps {
		words = vals(append(words, letter(s.Kind)), s.V)
	}
	return words
}

func letter(kind int) string {
	switch kind {
	case api.Move:
		return "M"
	case api.LineTo:
		return "L"
	case api.QuadTo:
		return "Q"
	case api.CubeTo:
		return "C"
	case api.ArcX:
		return "A"
	case api.ArcY:
		return "B"
	case api.Close:
		return "Z"
	}
	return none
}

func use(x api.Item) []string {
	words := vals([]string{"use", x.Name, "at"}, x.At[:])
	return append(words, "by", val(x.By), "turn", strconv.Itoa(x.Turn))
}

// vals is words, and l behind them.
func vals(words []string, l []api.Val) []string {
	for _, v := range l {
		words = append(words, val(v))
	}
	return words
}

func val(v api.Val) string {
	if v.Name != "" {
		return v.Name
	}
	return number.Show(v.N)
}

func ref(r api.Ref) string {
	if r.Name != "" {
		return r.Name
	}
	return color.Show(r.C)
}
