package print

import (
	"strconv"
	"strings"

	"glyphic/api"
	"glyphic/color"
	"glyphic/number"
)

// writer writes a text, one line behind the other.
type writer struct{ text strings.Builder }

// line writes the words, with a blank between them, and the line's end.
func (w *writer) line(words ...string) {
	w.text.WriteString(strings.Join(words, " "))
	w.text.WriteByte('\n')
}

func (w *writer) icon(s api.Src) {
	w.line("icon", strconv.Itoa(s.W), strconv.Itoa(s.H), "scale", strconv.Itoa(s.Scale)+";")
	for _, c := range s.Consts {
		w.line("const", c.Name, "=", number.Show(c.N)+";")
	}
	for _, c := range s.Colors {
		w.line("color", c.Name, "=", color.Show(c.C)+";")
	}
	for _, x := range s.Shapes {
		w.list([]string{"shape", x.Name}, x.Items)
	}
	for _, c := range s.Cmds {
		w.list(cmd(c), c.Items)
	}
}

// list writes the words that stand ahead of items, then these.
func (w *writer) list(ahead []string, items []api.Item) {
	w.line(append(ahead, "{")...)
	for _, x := range items {
		w.line("  " + strings.Join(item(x), " ") + ";")
	}
	w.line("}")
}
