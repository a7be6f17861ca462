package names

import (
	"glyphic/api"
)

// Check is the first name of s that is there twice, or else the first that is
// nobody's; nil if each is somebody's.
func Check(s api.Src) error {
	c, err := New(s)
	if err != nil {
		return err
	}
	for at, x := range s.Shapes {
		if err := c.items(x.Items, at); err != nil {
			return err
		}
	}
	for _, x := range s.Cmds {
		if err := c.cmd(x, len(s.Shapes)); err != nil {
			return err
		}
	}
	return nil
}

// cmd holds the names of a command against those that there are; it may use the
// first so many shapes.
func (c *Scope) cmd(x api.SrcCmd, shapes int) error {
	if err := c.vals(x.Width); err != nil {
		return err
	}
	if err := c.refs(x.Paint.A, x.Paint.B); err != nil {
		return err
	}
	if err := c.vals(x.Paint.V[:]...); err != nil {
		return err
	}
	return c.items(x.Items, shapes)
}

func (c *Scope) items(l []api.Item, shapes int) error {
	for _, x := range l {
		if err := c.item(x, shapes); err != nil {
			return err
		}
	}
	return nil
}

func (c *Scope) item(x api.Item, shapes int) error {
	if x.Use {
		return c.use(x, shapes)
	}
	for _, s := range x.Steps {
		if err := c.vals(s.V...); err != nil {
			return err
		}
	}
	return nil
}

func (c *Scope) use(x api.Item, shapes int) error {
	if at := c.Shape(x.Name); at < 0 || at >= shapes {
		return nobody(x.Pos)
	}
	return c.vals(x.At[0], x.At[1], x.By)
}

func (c *Scope) vals(l ...api.Val) error {
	for _, v := range l {
		if _, err := c.Val(v); err != nil {
			return err
		}
	}
	return nil
}

func (c *Scope) refs(l ...api.Ref) error {
	for _, r := range l {
		if _, err := c.Ref(r); err != nil {
			return err
		}
	}
	return nil
}
