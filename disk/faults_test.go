package disk_test

import (
	"fmt"
	"math"
	"testing"

	"docket/api"
	"docket/disk"
)

// kinds are the six kinds of a fault: what they answer, whether an act that is no Append is done, and whether power goes.
func kinds() []faultKind {
	return []faultKind{
		{api.Ahead, api.ErrIO, false, false, false},
		{api.Behind, api.ErrIO, true, false, false},
		{api.Tear, api.ErrIO, false, true, false},
		{api.Room, api.ErrSpace, false, true, false},
		{api.Lose, api.ErrDown, false, true, true},
		{api.Late, api.ErrDown, true, false, true},
	}
}

type faultKind struct {
	kind             int
	why              api.Errno
	done, part, lost bool
}

// scene is a disk on which every act does something.
func scene(t *testing.T) *disk.Disk {
	t.Helper()
	d := image(t, 12, "a=abc", "b=12345")
	does(t, d, lay("a", "xy"), create("c"))
	return d
}

// behind spells all that is to be told, with power again, of a disk on which power was lost.
func behind(t *testing.T, d *disk.Disk) string {
	t.Helper()
	d.Restart(d.Loose())
	return now(t, d)
}

func TestP3_4FaultsOfActsThatAreNoAppends(t *testing.T) {
	for _, a := range []act{create("e"), cut("b", 1), cut("a", 5), syncFile("a"), syncFile("b"), rename("a", "b"), rename("a", "a"), remove("a"), syncNames()} {
		done := scene(t)
		was := told(t, done)
		does(t, done, a)
		for _, k := range kinds() {
			for _, part := range []int{math.MinInt, -1, 0, 1, 2, math.MaxInt} {
				d := scene(t)
				d.Plan(api.Fault{Step: 2, Kind: k.kind, Part: part})
				what := fmt.Sprint(a, " with the fault ", k.kind, " ", part)
				answers(t, d, a, k.why)
				want := was
				if k.done {
					want = told(t, done)
				}
				if d.Power() == k.lost || d.Acts() != 3 {
					t.Errorf("%s: power %v, Acts %d", what, d.Power(), d.Acts())
				}
				if !k.lost && told(t, d) != want {
					t.Errorf("%s: %s, want %s", what, told(t, d), want)
				}
				tail := fmt.Sprint(files(d.Kept()), d.Used(), d.Loose())
				if other := scene(t); k.done {
					does(t, other, a)
					lastHolds(t, what, other, tail, d)
				} else {
					lastHolds(t, what, other, tail, d)
				}
			}
		}
	}
}

// lastHolds holds what a disk tells without power, and with power again, against one that it is to be like.
func lastHolds(t *testing.T, what string, like *disk.Disk, tail string, d *disk.Disk) {
	t.Helper()
	if want := fmt.Sprint(files(like.Kept()), like.Used(), like.Loose()); tail != want {
		t.Errorf("%s: %s, want %s", what, tail, want)
	}
	if got, want := behind(t, d), behind(t, like); got != want {
		t.Errorf("%s: %q behind a Restart, want %q", what, got, want)
	}
}

// In the scene two bytes have room: a fault counts its part among these.
func TestP3_4FaultsOfAppends(t *testing.T) {
	for _, p := range []string{"", "p", "pq", "pqrst"} {
		fits := p[:min(2, len(p))]
		for _, k := range kinds() {
			for _, part := range []int{math.MinInt, -1, 0, 1, 2, 3, 5, math.MaxInt} {
				d := scene(t)
				d.Plan(api.Fault{Step: 2, Kind: k.kind, Part: part})
				what := fmt.Sprint("Append of ", p, " with the fault ", k.kind, " ", part)
				answers(t, d, lay("a", p), k.why)
				laid := ""
				if k.done {
					laid = fits
				} else if k.part {
					laid = fits[:max(0, min(part, len(fits)))]
				}
				if d.Power() == k.lost || d.Acts() != 3 || d.Used() != 10+len(laid) {
					t.Errorf("%s: power %v, Acts %d, Used %d", what, d.Power(), d.Acts(), d.Used())
				}
				if c := d.Loose(); c.Names != 1 || fmt.Sprint(c.Bytes) != fmt.Sprint([]int{2 + len(laid), 0, 0}) {
					t.Errorf("%s: %v", what, c)
				}
				if got := behind(t, d); got != "a=abcxy"+laid+" b=12345 c=" {
					t.Errorf("%s: %s", what, got)
				}
			}
		}
	}
}

func TestP3_4WhatIsNoFault(t *testing.T) {
	for _, kind := range []int{math.MinInt, -1, 0, 7, 8, math.MaxInt} {
		d := image(t, 4, "a=ab")
		d.Plan(api.Fault{Step: 0, Kind: kind, Part: 1}, api.Fault{Step: 1, Kind: kind}, api.Fault{Step: 2, Kind: kind})
		answers(t, d, lay("a", "cdef"), api.ErrSpace)
		does(t, d, create("b"), syncNames())
		stands(t, fmt.Sprint("the kind ", kind), d, "a=abcd b=")
		d.Plan(api.Fault{Step: 3, Kind: kind}, api.Fault{Step: 3, Kind: api.Ahead})
		answers(t, d, create("c"), api.ErrIO)
	}
}

func TestP3_4TheFirstOfSeveral(t *testing.T) {
	for _, k := range kinds() {
		for _, other := range kinds() {
			d := image(t, 10, "a=")
			d.Plan(api.Fault{Step: 1, Kind: other.kind}, api.Fault{Step: 0, Kind: k.kind}, api.Fault{Step: 0, Kind: other.kind}, api.Fault{Step: 0, Kind: k.kind})
			answers(t, d, create("b"), k.why)
			if !k.lost {
				answers(t, d, create("c"), other.why)
			}
		}
	}
}

func TestP3_4WhichActAFaultIsFor(t *testing.T) {
	d := image(t, 10, "a=")
	d.Plan(api.Fault{Step: 2, Kind: api.Ahead}, api.Fault{Step: -1, Kind: api.Ahead})
	does(t, d, syncNames(), read("a", 0, 0), length("a"))
	answers(t, d, create("a"), api.ErrExists)
	answers(t, d, create("A"), api.ErrName)
	answers(t, d, lay("b", "x"), api.ErrMissing)
	does(t, d, create("b"))
	answers(t, d, create("a"), api.ErrExists)
	answers(t, d, create("c"), api.ErrIO)
	does(t, d, create("c"))
	d.Plan(api.Fault{Step: 3, Kind: api.Ahead}, api.Fault{Step: 0, Kind: api.Lose}, api.Fault{Step: math.MaxInt, Kind: api.Ahead})
	does(t, d, remove("c"), remove("b"))
	if d.Acts() != 6 {
		t.Errorf("Acts %d", d.Acts())
	}
}

// No fault meets a look.
func TestP3_5NoFaultMeetsALook(t *testing.T) {
	d := image(t, 10, "a=abc")
	d.Plan(api.Fault{Step: 0, Kind: api.Lose})
	does(t, d, read("a", 0, 3), length("a"))
	stands(t, "with a fault ahead", d, "a=abc")
	answers(t, d, read("a", 0, 4), api.ErrArg)
	answers(t, d, syncNames(), api.ErrDown)
}

func TestP3_4APlanTakesTheOthersPlace(t *testing.T) {
	d := image(t, 10, "a=")
	d.Plan(api.Fault{Step: 0, Kind: api.Ahead}, api.Fault{Step: 1, Kind: api.Ahead})
	d.Plan(api.Fault{Step: 1, Kind: api.Behind})
	does(t, d, create("b"))
	answers(t, d, create("c"), api.ErrIO)
	stands(t, "the later plan", d, "a= b= c=")
	d.Plan(api.Fault{Step: 2, Kind: api.Ahead})
	d.Plan()
	does(t, d, create("e"))
	list := []api.Fault{{Step: 3, Kind: api.Ahead}, {Step: 4, Kind: api.Room}}
	d.Plan(list[:1]...)
	if list[1] != (api.Fault{Step: 4, Kind: api.Room}) {
		t.Errorf("what was handed in is %v now", list)
	}
	clear(list)
	answers(t, d, create("f"), api.ErrIO)
	does(t, d, create("f"))
}

func TestP3_4PlansAndRestarts(t *testing.T) {
	d := image(t, 10, "a=")
	d.Plan(api.Fault{Step: 0, Kind: api.Late}, api.Fault{Step: 1, Kind: api.Ahead})
	answers(t, d, create("b"), api.ErrDown)
	d.Restart(d.Loose())
	does(t, d, create("c"))
	d.Plan(api.Fault{Step: 2, Kind: api.Lose}, api.Fault{Step: 4, Kind: api.Ahead})
	answers(t, d, create("e"), api.ErrDown)
	d.Plan(api.Fault{Step: 3, Kind: api.Ahead})
	d.Restart(api.Cut{})
	does(t, d, create("f"))
	d.Plan(api.Fault{Step: 4, Kind: api.Ahead})
	answers(t, d, create("g"), api.ErrIO)
	stands(t, "at last", d, "a= b= f=")
}
