package tree

import "docket/api"

// Inclusion makes the proof that a leaf is among size ones. What it is made of is asked of at.
func Inclusion(width, size, i int, at func(Spot) api.Digest) ([]api.Digest, api.Errno) {
	if at == nil {
		return nil, api.ErrArg
	}
	if !counts(size, i) {
		return nil, api.ErrSize
	}
	return besides(asides(size, i, i+1), asking(width, at)), api.OK
}

// Consistency makes the proof that one size's tree goes on in another's. What it is made of is asked of at.
func Consistency(width, old, size int, at func(Spot) api.Digest) ([]api.Digest, api.Errno) {
	if at == nil {
		return nil, api.ErrArg
	}
	if !grows(old, size) {
		return nil, api.ErrSize
	}
	if old == 0 || old == size {
		return nil, api.OK
	}
	first, ask := lastSpot(old), asking(width, at)
	ds := besides(asides(size, first, old), ask)
	if first == 0 { // the old tree is one spot: whoever checks has its root
		return ds, api.OK
	}
	return append([]api.Digest{ask(first, old)}, ds...), api.OK
}

// asking tells the digest of the part of the leaves from .. to, out of what at answers of its spots.
func asking(width int, at func(Spot) api.Digest) func(from, to int) api.Digest {
	return func(from, to int) api.Digest {
		var ds []api.Digest
		for _, s := range Spots(from, to) {
			ds = append(ds, at(s))
		}
		return Fold(width, ds)
	}
}

// besides asks for the digests of the parts aside.
func besides(row []aside, ask func(from, to int) api.Digest) []api.Digest {
	var ds []api.Digest
	for _, a := range row {
		ds = append(ds, ask(a.from, a.to))
	}
	return ds
}
