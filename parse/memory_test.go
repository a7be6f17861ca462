package parse

import (
	"cmp"
	"reflect"
	"slices"
	"strings"
	"testing"
	"unsafe"

	"glyphic/api"
	"glyphic/word"
)

// piece is what a list holds of the memory, spare room too.
type piece struct{ from, to uintptr }

// pieces are those of all lists in v.
func pieces(v reflect.Value) []piece {
	var out []piece
	switch v.Kind() {
	case reflect.Struct:
		for k := range v.NumField() {
			out = append(out, pieces(v.Field(k))...)
		}
	case reflect.Slice:
		if size := uintptr(v.Cap()) * v.Type().Elem().Size(); size > 0 {
			out = append(out, piece{v.Pointer(), v.Pointer() + size})
		}
		for k := range v.Len() {
			out = append(out, pieces(v.Index(k))...)
		}
	case reflect.Array:
		for k := range v.Len() {
			out = append(out, pieces(v.Index(k))...)
		}
	}
	return out
}

// texts are all that are in v.
func texts(v reflect.Value) []string {
	var out []string
	switch v.Kind() {
	case reflect.String:
		out = append(out, v.String())
	case reflect.Struct:
		for k := range v.NumField() {
			out = append(out, texts(v.Field(k))...)
		}
	case reflect.Slice, reflect.Array:
		for k := range v.Len() {
			out = append(out, texts(v.Index(k))...)
		}
	}
	return out
}

// P0.4: each list handed out is new memory, its spare room too, within one answer and over several.
func TestHandedOut(t *testing.T) {
	var answers []api.Src
	s := strings.Repeat("path M 1 2 L 3 4 Z; use a at 1 2;", 3)
	for range 3 {
		answers = append(answers, checkTaken(t, full), checkTaken(t, head+"shape a{"+s+"}shape b{}line 1 a{"+s+"}fill evenodd a{}line 2 b{"+s+s+"}const a=1;color b=#000000;"))
	}
	all := pieces(reflect.ValueOf(answers))[1:]
	if len(all) < 100 {
		t.Errorf("just %d lists", len(all))
	}
	slices.SortFunc(all, func(a, b piece) int { return cmp.Compare(a.from, b.from) })
	for k := 1; k < len(all); k++ {
		if all[k].from < all[k-1].to {
			t.Errorf("two lists share memory: %v, %v", all[k-1], all[k])
		}
	}
}

// P0.4: what is handed in isn't kept: no name is a piece of the text.
func TestKept(t *testing.T) {
	s := strings.Clone(full)
	from := uintptr(unsafe.Pointer(unsafe.StringData(s)))
	names := 0
	for _, name := range texts(reflect.ValueOf(checkTaken(t, s))) {
		if name == "" {
			continue
		}
		names++
		if at := uintptr(unsafe.Pointer(unsafe.StringData(name))); at >= from && at < from+uintptr(len(s)) {
			t.Errorf("%q is a piece of the text", name)
		}
	}
	words, _ := word.Split(full)
	for _, w := range words {
		if w.Kind == word.Name {
			names--
		}
	}
	if names != 0 {
		t.Errorf("%d more names than there are in the text", names)
	}
}

// P0.5: the same text comes to the same, whatever was read ahead of it, and in whatever is read at once.
func TestAgain(t *testing.T) {
	want := told(checkTaken(t, full))
	done := make(chan string)
	for range 8 {
		go func() {
			for _, s := range []string{head, "", full[:100], head + "shape n{use n at 1 1;}", "?"} {
				Src(s)
			}
			got, err := Src(full)
			if err != nil {
				done <- err.Error()
				return
			}
			done <- told(got)
		}()
	}
	for range 8 {
		if got := <-done; got != want {
			t.Errorf("%s, not %s", got, want)
		}
	}
}
