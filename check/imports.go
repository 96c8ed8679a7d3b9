package check

import (
	"slices"

	"spinet/api"
	"spinet/types"
)

func (c *checker) imported(x api.Import) {
	if x.Name == c.name || slices.ContainsFunc(c.imports, func(u api.Used) bool { return u.Name == x.Name }) {
		fail(api.ErrName, x.At)
	}
	f, ok := c.faceOf(x.Name)
	if !ok {
		fail(api.ErrMiss, x.At)
	}
	c.declare(x.Alias, x.At, module{f})
	if slices.ContainsFunc(f.Uses, func(u api.Used) bool { return u.Name == c.name }) {
		fail(api.ErrLoop, x.At)
	}
	c.imports = append(c.imports, api.Used{Name: f.Name, Key: f.Key})
	c.holdKeys(f, x.At)
}

func (c *checker) holdKeys(f api.Face, at int) {
	c.hold(api.Used{Name: f.Name, Key: f.Key}, at)
	for _, u := range f.Uses {
		c.hold(u, at)
	}
	if len(c.keys) > api.MaxMods {
		fail(api.ErrMany, at)
	}
}

func (c *checker) hold(u api.Used, at int) {
	if key, there := c.keys[u.Name]; there && key != u.Key {
		fail(api.ErrKey, at)
	}
	c.keys[u.Name] = u.Key
}

// uses is the imports, and behind them what their interfaces use.
func (c *checker) uses() []api.Used {
	l := slices.Clone(c.imports)
	for _, x := range c.imports {
		f, _ := c.faceOf(x.Name)
		for _, u := range f.Uses {
			if !slices.Contains(l, u) {
				l = append(l, u)
			}
		}
	}
	return l
}

// faceOf is the first interface of that name.
func (c *checker) faceOf(name string) (api.Face, bool) {
	i := slices.IndexFunc(c.faces, func(f api.Face) bool { return f.Name == name })
	if i < 0 {
		return api.Face{}, false
	}
	return c.faces[i], true
}

// origin tells imported types apart: records by their module and number, others
// by their module and name, or, without one, by their interface and place.
type origin struct {
	mod, name string
	form      int // FmRecord, or 0 of others
	n         int
}

func originOf(f api.Face, place int) origin {
	x := f.Types[place]
	switch {
	case x.Form == api.FmRecord:
		return origin{mod: x.Mod, form: x.Form, n: x.Desc}
	case x.Name != "":
		return origin{mod: x.Mod, name: x.Name}
	}
	return origin{mod: f.Name, n: place}
}

// bring puts a type of an interface into the table, for the sake of what stands
// at that place. Interfaces that contradict each other, though their keys don't
// tell, may make no good table.
func (c *checker) bring(f api.Face, place, at int) int {
	before := len(c.table)
	n := c.bringIn(f, place, at)
	if len(c.table) > before && !types.Good(c.table) {
		fail(api.ErrFace, at)
	}
	return n
}

// bringIn takes a type's own place ahead of those of the types in it, which may
// lead back to it.
func (c *checker) bringIn(f api.Face, place, at int) int {
	if place <= api.FmText {
		return place
	}
	from := originOf(f, place)
	if n, there := c.brought[from]; there {
		return n
	}
	x := f.Types[place]
	n := c.put(x, at)
	c.brought[from] = n
	x.Elem = c.bringIn(f, x.Elem, at)
	x.Base = c.bringIn(f, x.Base, at)
	x.Fields, x.Params = slices.Clone(x.Fields), slices.Clone(x.Params)
	for i := range x.Fields {
		x.Fields[i].Type = c.bringIn(f, x.Fields[i].Type, at)
	}
	for i := range x.Params {
		x.Params[i].Type = c.bringIn(f, x.Params[i].Type, at)
	}
	x.Result = c.bringIn(f, x.Result, at)
	c.table[n] = x
	return n
}
