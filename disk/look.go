package disk

import (
	"bytes"
	"iter"
	"maps"
	"slices"

	"docket/api"
)

// Read tells n bytes of a file from a place on.
func (d *Disk) Read(name string, at, n int) ([]byte, error) {
	f, why := d.find(name)
	if why == api.OK && (at < 0 || n < 0 || n > len(f.now)-at) {
		why = api.ErrArg
	}
	if why != api.OK {
		return nil, NewFault("Read", name, why)
	}
	return bytes.Clone(f.now[at : at+n]), nil
}

// Length tells how many bytes a file has.
func (d *Disk) Length(name string) (int, error) {
	f, why := d.find(name)
	if why != api.OK {
		return 0, NewFault("Length", name, why)
	}
	return len(f.now), nil
}

// Walk goes through the names and the lengths.
func (d *Disk) Walk() iter.Seq2[string, int] {
	return func(yield func(string, int) bool) {
		for _, e := range d.listing() {
			if !yield(e.name, e.length) {
				return
			}
		}
	}
}

// entry is a name as it stood when a Walk began: what is done meanwhile is not seen.
type entry struct {
	name   string
	length int
}

func (d *Disk) listing() []entry {
	if !d.power {
		return nil
	}
	var l []entry
	for _, name := range slices.Sorted(maps.Keys(d.names.now)) {
		l = append(l, entry{name, d.names.length(name)})
	}
	return l
}

// Used tells how many bytes all files have.
func (d *Disk) Used() int { return d.used }

// Kept tells the safe files.
func (d *Disk) Kept() map[string][]byte {
	kept := map[string][]byte{}
	for name, f := range d.names.safe {
		kept[name] = bytes.Clone(f.safe)
	}
	return kept
}
