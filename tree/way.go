package tree

import (
	"slices"

	"docket/api"
	"docket/digest"
)

// aside is the part of a subtree in which that does not lie of which a proof speaks: the leaves from .. to, left or right of it.
type aside struct {
	from, to int
	left     bool
}

// asides goes from the subtree of the leaves from .. to up to the tree of size leaves, and tells of each greater subtree on the way, the smallest first, the part aside.
func asides(size, from, to int) []aside {
	var row []aside
	low, high := 0, size
	for high-low > to-from {
		middle := low + leftPart(high-low)
		if from < middle {
			row = append(row, aside{from: middle, to: high})
			high = middle
		} else {
			row = append(row, aside{from: low, to: middle, left: true})
			low = middle
		}
	}
	slices.Reverse(row)
	return row
}

// lastSpot tells where the last spot of a size, 1 at least, begins. It ends with the size, and is a subtree of every greater tree too.
func lastSpot(size int) int { return size & (size - 1) }

// counts tells whether there is an i-th among size leaves.
func counts(size, i int) bool { return size <= api.MaxLog && 0 <= i && i < size }

// grows tells whether a tree of the size old may have come to be one of size.
func grows(old, size int) bool { return 0 <= old && old <= size && size <= api.MaxLog }

// join tells the digest of a subtree from those of its two parts.
type join func(l, r api.Digest) api.Digest

// joining is the join at a width.
func joining(width int) join {
	return func(l, r api.Digest) api.Digest { return digest.Node(width, l, r) }
}

// writing is the join at a width that puts each text that it sums behind texts.
func writing(width int, texts *[][]byte) join {
	return func(l, r api.Digest) api.Digest {
		t := digest.Text(digest.DNode, l[:], r[:])
		*texts = append(*texts, t)
		return digest.Cut(digest.Sum(t), width)
	}
}

// rise joins a digest with those of the parts aside, upwards, and tells where they lead.
func rise(d api.Digest, row []aside, ds []api.Digest, both join) api.Digest {
	for i, a := range row {
		if a.left {
			d = both(ds[i], d)
		} else {
			d = both(d, ds[i])
		}
	}
	return d
}

// riseLeft is rise with the parts to the left alone: those that an older tree has too.
func riseLeft(d api.Digest, row []aside, ds []api.Digest, both join) api.Digest {
	for i, a := range row {
		if a.left {
			d = both(ds[i], d)
		}
	}
	return d
}
