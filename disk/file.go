package disk

import "bytes"

// file is a thing that names may find.
//
// safe and now may share an array, and only now grows in it. So bytes that are safe are never written over, as long as a now that was cut short has no spare room.
type file struct {
	number int
	safe   []byte
	now    []byte // the safe bytes with all that is loose done
	loose  []run
}

// run is the units of one act, in their order: each byte of an Append, or, where there are no bytes, the one unit of a Cut.
type run struct {
	bytes []byte
	size  int // of a Cut: how many bytes it leaves
}

func (r run) units() int { return max(1, len(r.bytes)) }

// do does the first n units, one at least, to a file's bytes.
func (r run) do(b []byte, n int) []byte {
	if len(r.bytes) == 0 {
		return b[:r.size:r.size]
	}
	return append(b, r.bytes[:min(n, len(r.bytes))]...)
}

// do does a run now; it is not safe yet.
func (f *file) do(r run) {
	f.now = r.do(f.now, r.units())
	f.loose = append(f.loose, r)
}

// lay lays a copy of p behind the file's bytes.
func (f *file) lay(p []byte) {
	if len(p) > 0 {
		f.do(run{bytes: bytes.Clone(p)})
	}
}

// cut takes the bytes from size on away.
func (f *file) cut(size int) { f.do(run{size: size}) }

// units tells how many units are not safe.
func (f *file) units() int {
	n := 0
	for _, r := range f.loose {
		n += r.units()
	}
	return n
}

func (f *file) sync() { f.safe, f.loose = f.now, nil }

// keep makes the first n units safe and forgets the others.
func (f *file) keep(n int) {
	b := f.safe
	for _, r := range f.loose {
		if n <= 0 {
			break
		}
		b = r.do(b, n)
		n -= r.units()
	}
	f.safe, f.now, f.loose = b, b, nil
}
