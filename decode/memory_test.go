package decode

import (
	"bytes"
	"slices"
	"testing"

	"glyphic/api"
	"glyphic/encode"
	"glyphic/icon"
)

// P0.4: what is handed in stays as it is; what lies behind its length is neither read nor written.
func TestHandedIn(t *testing.T) {
	good := join(parts())
	for k := range len(good) + 1 {
		room := slices.Concat(good, []byte{7, 7, 7})
		kept := slices.Clone(room)
		got, err := Icon(room[:k])
		want, wrong := Icon(slices.Clone(good[:k]))
		if !icon.Same(got, want) || (err == nil) != (k == len(good)) || (wrong == nil) != (err == nil) || err != nil && err.Error() != wrong.Error() {
			t.Errorf("%d bytes: %v, %v, not %v, %v", k, got, err, want, wrong)
		}
		if !bytes.Equal(room, kept) {
			t.Errorf("%d bytes: written into: % x", k, room)
		}
	}
}

// P0.4: an answer shows nothing of what is written into the bytes afterwards.
func TestKept(t *testing.T) {
	b := join(parts())
	i, err := Icon(b)
	clear(b)
	if err != nil || !icon.Same(i, right()) {
		t.Errorf("%v, %v, not %v", i, err, right())
	}
}

// fillUp writes into each byte of a list's room.
func fillUp[T any](list []T, with T) {
	list = list[:cap(list)]
	for n := range list {
		list[n] = with
	}
}

// P0.4: each list handed out is new memory, its spare room too: what is written into one shows in no other one.
func TestHandedOut(t *testing.T) {
	d := &draw{4}
	icons := []api.Icon{right()}
	for range 60 {
		icons = append(icons, d.icon())
	}
	for _, want := range icons {
		b, _ := encode.Bytes(want)
		kept, _ := Icon(b)
		for c := range want.Cmds {
			for p := range want.Cmds[c].Paths {
				i, _ := Icon(b)
				segs := i.Cmds[c].Paths[p].Segs
				was := slices.Clone(segs)
				fillUp(segs, api.Seg{Kind: 77})
				copy(segs, was)
				checkSame(t, "segments", i, want)
			}
			i, _ := Icon(b)
			paths := i.Cmds[c].Paths
			was := slices.Clone(paths)
			fillUp(paths, api.Path{Closed: true})
			copy(paths, was)
			checkSame(t, "paths", i, want)
		}
		i, _ := Icon(b)
		cmds := slices.Clone(i.Cmds)
		fillUp(i.Cmds, api.Cmd{Kind: 77})
		fillUp(i.Colors, api.Color{G: 77})
		checkSame(t, "another answer", kept, want)
		i.Cmds, i.Colors = cmds, kept.Colors
		checkSame(t, "commands and colors", i, want)
	}
}

func checkSame(t *testing.T, name string, got, want api.Icon) {
	t.Helper()
	if !icon.Same(got, want) {
		t.Errorf("%s share memory: %v, not %v", name, got, want)
	}
}

// P0.5: the same bytes are the same icon, or the same error, each time.
func TestAgain(t *testing.T) {
	d := &draw{5}
	good := join(parts())
	for range 500 {
		b := d.change(good)
		one, err := Icon(b)
		Icon(good)
		two, again := Icon(b)
		if !icon.Same(one, two) || (err == nil) != (again == nil) || err != nil && err.Error() != again.Error() {
			t.Errorf("% x: %v, then %v", b, err, again)
		}
	}
}
