package disk

import (
	"cmp"
	"maps"
	"slices"
)

// directory is which names find which files.
type directory struct {
	safe  map[string]*file
	now   map[string]*file // the safe names with all that is loose done
	loose []change
}

// change lets a name find a file: one that was made, or else the one that another name found till then. Of a Remove there is no such name: to is empty.
type change struct {
	made     *file
	from, to string
}

func (c change) do(names map[string]*file) {
	f := c.made
	if f == nil {
		f = names[c.from]
		delete(names, c.from)
	}
	if c.to != "" {
		names[c.to] = f
	}
}

// do does a change now; it is not safe yet.
func (g *directory) do(c change) {
	c.do(g.now)
	g.loose = append(g.loose, c)
}

func (g *directory) sync() {
	for _, c := range g.loose {
		c.do(g.safe)
	}
	g.loose = nil
}

// keep makes the first n changes safe and forgets the others.
func (g *directory) keep(n int) {
	g.loose = g.loose[:max(0, min(n, len(g.loose)))]
	g.sync()
	g.now = maps.Clone(g.safe)
}

// reach tells the files that a Restart may bring back, as they were made.
func (g *directory) reach() []*file {
	files := slices.Collect(maps.Values(g.safe))
	for _, c := range g.loose {
		if c.made != nil {
			files = append(files, c.made)
		}
	}
	slices.SortFunc(files, func(a, b *file) int { return cmp.Compare(a.number, b.number) })
	return files
}

// length tells how many bytes the file has now that a name finds now; of a name that finds none 0.
func (g *directory) length(name string) int {
	if f := g.now[name]; f != nil {
		return len(f.now)
	}
	return 0
}

// total tells how many bytes all files have now that names find now.
func (g *directory) total() int {
	n := 0
	for _, f := range g.now {
		n += len(f.now)
	}
	return n
}
