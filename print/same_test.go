package print

import (
	"fmt"
	"reflect"
	"slices"
	"testing"

	"glyphic/api"
)

// full has each piece of the language, and lists of several.
const full = `icon 24 16 scale 2;
const a = 1.5;
const b = -0.5;
color red = #ff0000;
color thin = #00ff0080;
shape c {
  path M 0 0 L 1 a Z;
  path M a b Q 1 2 3 4 C 1 2 3 4 5 6 A 1 1 B -2 0.5;
}
shape d {
  use c at 0 0 by 2 turn 1;
  path M 0 0 L 1 1;
  use c at a b by b turn 3;
}
shape e {
}
fill nonzero linear red #00ff0080 0 0 1 a {
  use d at 0 0 by 1 turn 0;
}
line a red {
}
fill evenodd radial thin red a 1 2 {
  path M 0 0 L 1 1;
  path M 0 0 L 1 2;
}
line 2 #010203 {
  use e at 1 2 by 1 turn 2;
}
`

// silent tells whether a field of x says nothing there, so that no parser sets it.
func silent(x any, field string) bool {
	switch x := x.(type) {
	case api.Val:
		return field == "N" && x.Name != ""
	case api.Ref:
		return field == "C" && x.Name != ""
	case api.Item:
		if x.Use {
			return field == "Steps"
		}
		return field == "Name" || field == "At" || field == "By" || field == "Turn"
	case api.SrcPaint:
		return x.Kind == api.Flat && (field == "B" || field == "V")
	case api.SrcCmd:
		return field == "Width" && x.Kind != api.Outline || field == "Rule" && x.Kind != api.Fill
	}
	return false
}

// tester changes one thing at a time in changed, and asks whether it is the same as base.
type tester struct {
	*testing.T
	base, changed api.Src
	count         int
}

func newTester(t *testing.T) *tester {
	return &tester{T: t, base: read(t, full), changed: read(t, full)}
}

func (c *tester) ask(where string, want bool) {
	c.count++
	if Same(c.base, c.changed) != want || Same(c.changed, c.base) != want {
		c.Errorf("%s: the same: %t", where, !want)
	}
}

// with asks while v is the other one.
func (c *tester) with(v reflect.Value, other any, where string, want bool) {
	was := reflect.New(v.Type()).Elem()
	was.Set(v)
	v.Set(reflect.ValueOf(other).Convert(v.Type()))
	c.ask(fmt.Sprint(where, " ", v), want)
	v.Set(was)
}

// walk goes through all that says something in v.
func (c *tester) walk(v reflect.Value, where string) {
	switch v.Kind() {
	case reflect.Struct:
		for k := range v.NumField() {
			field := v.Type().Field(k).Name
			if !silent(v.Interface(), field) {
				c.field(v.Field(k), where+"."+field, field)
			}
		}
	case reflect.Slice, reflect.Array:
		most := v.Len()
		if most == 4 && v.Index(3).IsZero() {
			most = 3 // a radial paint's vals: no other four of full end in a 0
		}
		for k := range most {
			c.walk(v.Index(k), fmt.Sprint(where, k))
		}
	case reflect.String:
		c.with(v, v.String()+"z", where, false)
		c.with(v, "z", where, false)
	case reflect.Bool:
		c.with(v, !v.Bool(), where, false)
	case reflect.Uint8:
		for k := range 8 {
			c.with(v, v.Uint()^1<<k, where, false)
		}
	default:
		c.numbers(v, where)
	}
}

// field walks into one of a struct, or changes it as only such a one may be.
func (c *tester) field(v reflect.Value, where, name string) {
	switch name {
	case "Pos":
		for _, pos := range []int{0, 1, -1, int(v.Int()) + 1, api.MaxBytes, 1 << 40} {
			c.with(v, pos, where, true)
		}
	case "Kind":
		for kind := range 8 {
			if int64(kind) != v.Int() {
				c.with(v, kind, where, false)
			}
		}
	case "Rule":
		c.with(v, 1-v.Int(), where, false)
	case "Items", "Steps", "Consts", "Colors", "Shapes", "Cmds":
		c.list(v, where)
	default:
		c.walk(v, where)
	}
}

// numbers asks with others in v.
func (c *tester) numbers(v reflect.Value, where string) {
	for _, more := range []int64{1, -1, 10, 1000000} {
		if n := v.Int() + more; n >= 0 || v.Kind() == reflect.Int64 {
			c.with(v, n, where, false)
		}
	}
}

// list asks with one less, one more, two the other way round, and walks into each.
func (c *tester) list(v reflect.Value, where string) {
	none := reflect.MakeSlice(v.Type(), 0, 0)
	if v.Len() == 0 {
		c.with(v, none.Interface(), where, true)
		c.with(v, reflect.Zero(v.Type()).Interface(), where, true)
	} else {
		c.with(v, none.Interface(), where, false)
		c.with(v, v.Slice(1, v.Len()).Interface(), where, false)
		c.with(v, v.Slice(0, v.Len()-1).Interface(), where, false)
		c.with(v, reflect.AppendSlice(v.Slice3(0, 1, 1), v).Interface(), where, false)
	}
	for k := 1; k < v.Len(); k++ {
		other := reflect.AppendSlice(none, v)
		reflect.Swapper(other.Interface())(k-1, k)
		c.with(v, other.Interface(), where, false)
	}
	for k := range v.Len() {
		c.walk(v.Index(k), fmt.Sprint(where, k))
	}
}

// P11.1: icons that differ in anything that is written are not the same, those that differ in places alone are.
func TestSameFields(t *testing.T) {
	checkPrinted(t, full, full)
	c := newTester(t)
	c.ask("nothing", true)
	c.walk(reflect.ValueOf(&c.changed).Elem(), "")
	c.ask("nothing", true)
	if c.count < 1000 {
		t.Errorf("just %d times", c.count)
	}
}

// P11.1: a const, a color, a shape, a number and a color by their names, of the same name or of the same worth, are not the same.
func TestSameNot(t *testing.T) {
	all := []string{
		"", "const a=1;", "color a=#000000;", "color a=#00000000;", "shape a{}", "shape a{path Z;}", "shape a{path Z Z;}", "shape a{path Z;path Z;}", "shape a{}shape a{path Z;}",
		"const a=1;const a=1;", "const a=1;const b=2;", "const b=2;const a=1;", "line 1 a{}", "line a a{}", "line 1 a{}line 1 a{}", "fill evenodd a{}", "fill nonzero a{}",
		"line 1 #ff0000{}", "line 1 #ff0000fe{}", "line 1 linear a a 1 2 3 4{}", "line 1 radial a a 1 2 3{}", "line 1 radial a a 1 2 4{}", "line 1 a{path Z;}", "line 1 a{use a at 1 1;}",
		"line 1 a{use a at 1 1 by 2;}", "line 1 a{use a at 1 1 turn 2;}", "line 1 a{path A 1 1;}", "line 1 a{path B 1 1;}", "line 1 a{path M 1 1;}", "line 1 a{path L 1 1;}",
		"line 1 a{path L 1 1 L 1 1;}", "line 1 a{path L 1 1;path L 1 1;}", "line 1 a{path L 1 11;}", "line 1 a{path L 11 1;}", "line 1 a{path L 1 a;}", "line 1 a{path L a 1;}",
	}
	for i, a := range all {
		for j, b := range all {
			if got := Same(read(t, head+a), read(t, head+b)); got != (i == j) {
				t.Errorf("%q, %q: %t", a, b, got)
			}
		}
	}
}

// P11.1: texts that are written in another way, but tell the same, are the same.
func TestSameWays(t *testing.T) {
	for _, l := range [][]string{
		{"icon 1 1;", "icon 1 1 scale 0;", "icon 01 001 scale 000;", "//\nicon\t1 1 ;\n"},
		{head + "const a=1;line 1 b{}", head + "line 1 b{}const a=1;", head + "line 1.0 b{}const a=01.00;"},
		{head + "color a=#010203;", head + "color a=#010203ff;"},
		{head + "shape s{use s at 0 0;}", head + "shape s{use s at 0 0 by 1;}", head + "shape s{use s at 0 -0 turn 0;}", head + "shape s{use s at 00 0.0 by 1.0 turn 00;}"},
	} {
		for _, a := range l {
			for _, b := range slices.Backward(l) {
				if !Same(read(t, a), read(t, b)) {
					t.Errorf("%q, %q: not the same", a, b)
				}
			}
		}
	}
	if !Same(api.Src{}, api.Src{}) || Same(api.Src{}, read(t, head)) {
		t.Error("the zero value")
	}
}
