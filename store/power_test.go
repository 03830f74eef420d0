package store_test

import (
	"fmt"
	"slices"
	"testing"

	"docket/api"
	"docket/disk"
	"docket/store"
)

// stage is one step of a play: records that are to wait and be synced; or, where there are none, a Cut to a size.
type stage struct {
	waits []string
	size  int
}

// play goes through stages with one store, whatever is refused, till power goes.
type play struct {
	d     *disk.Disk
	s     *store.Store
	sure  []string   // what Synced has told, and no Cut was asked to take off
	maybe [][]string // rows that may stand as far as they go, as long as something is left over
}

func (y *play) goes(stages []stage) {
	for _, g := range stages {
		if !y.d.Power() {
			return
		}
		if g.waits == nil {
			y.cuts(min(g.size, len(y.sure)))
		} else {
			y.syncs(g.waits)
		}
		if !y.s.Left() {
			y.maybe = nil
		}
	}
}

func (y *play) cuts(size int) {
	y.maybe = append(y.maybe, y.sure)
	y.sure = y.sure[:size]
	y.s.Cut(size)
}

func (y *play) syncs(records []string) {
	row := slices.Concat(y.sure, records)
	y.maybe = append(y.maybe, row)
	for _, p := range records {
		y.s.Append([]byte(p))
	}
	if y.s.Sync() == nil {
		y.sure = row
	}
}

// allows tells whether these records may stand.
func (y *play) allows(l []string) bool {
	begins := func(row []string) bool { return len(row) >= len(l) && slices.Equal(row[:len(l)], l) }
	return begins(y.sure) && len(l) == len(y.sure) ||
		len(l) >= len(y.sure) && slices.Equal(l[:len(y.sure)], y.sure) && slices.ContainsFunc(y.maybe, begins)
}

// cuts tells losses of power that keep as much of each thing as one of these shares says, in eighths.
func cuts(loose api.Cut, shares ...int) []api.Cut {
	all := []api.Cut{{}}
	for i := -1; i < len(loose.Bytes); i++ {
		most, next := loose.Names, []api.Cut(nil)
		if i >= 0 {
			most = loose.Bytes[i]
		}
		var kept []int
		for _, n := range shares {
			if n = (most*n + 7) / 8; !slices.Contains(kept, n) {
				kept = append(kept, n)
			}
		}
		for _, c := range all {
			for _, n := range kept {
				more := api.Cut{Names: c.Names, Bytes: append(slices.Clone(c.Bytes), n)}
				if i < 0 {
					more = api.Cut{Names: n}
				}
				next = append(next, more)
			}
		}
		all = next
	}
	return all
}

// scenery is where plays begin: records that are safe, the stages, how many bytes of an Append are kept, and the shares.
type scenery struct {
	records []string
	stages  []stage
	parts   []int
	shares  []int
}

func (c scenery) plays(t *testing.T, faults ...api.Fault) *play {
	t.Helper()
	d := image(t, segments(c.records...))
	y := &play{d: d, s: open(t, d), sure: c.records}
	d.Plan(faults...)
	y.goes(c.stages)
	return y
}

// recovers holds that a new Open finds what may stand, and another one behind it the same, without an act. It tells what was found.
func (c scenery) recovers(t *testing.T, what string, y *play) []string {
	t.Helper()
	l := c.found(open(t, y.d))
	if !y.allows(l) {
		t.Fatalf("%s: %s stand; sure are %s, %s may stand", what, spelt(l), spelt(y.sure), y.maybe)
	}
	quiet(t, what, y.d, func() { c.finds(t, what, y.d, l) })
	return l
}

// finds holds that a new Open finds these records, and that they and nothing else are safe.
func (c scenery) finds(t *testing.T, what string, d *disk.Disk, want []string) {
	t.Helper()
	if l := c.found(open(t, d)); !slices.Equal(l, want) {
		t.Fatalf("%s: %s stand, want %s", what, spelt(l), spelt(want))
	}
	stands(t, what, d, segments(want...))
}

// found tells a store's records. Those that were there at the beginning are not asked for, where there are as many: the disk's bytes are looked at too.
func (c scenery) found(s *store.Store) []string {
	l := slices.Clone(c.records[:min(len(c.records), s.Next())])
	for _, p := range s.Rows(len(c.records)) {
		l = append(l, string(p))
	}
	return l
}

// small has little of all, so that much can be gone through; large goes over a segment's edge.
var small = scenery{
	stages: []stage{{waits: []string{"a", "b"}}, {waits: []string{"c"}}, {waits: []string{"", "d"}}, {size: 3}, {waits: []string{"f"}}, {size: 0}, {waits: []string{"g", "h"}}},
	parts:  []int{0, 1, 13, 14, 20, 28, 30},
	shares: []int{0, 1, 4, 8},
}

func large() scenery {
	return scenery{
		records: upTo(20),
		stages:  []stage{{waits: []string{"a", "b", "c"}}, {size: 17}, {waits: []string{"d", "e"}}, {size: 15}},
		parts:   []int{0, 16},
		shares:  []int{0, 4, 8},
	}
}

// howMany tells the acts of a scenery's stages, where nothing is refused.
func (c scenery) howMany(t *testing.T) int { return c.plays(t).d.Acts() }

// Power goes at each act, and each beginning of what is not safe is kept.
func TestP5_11PowerGoesAtAnyAct(t *testing.T) {
	t.Parallel()
	for _, c := range []scenery{small, large()} {
		if n := c.howMany(t); n < 12 {
			t.Fatalf("%d acts are too few to show anything", n)
		}
		for act := range c.howMany(t) {
			for _, f := range c.losses(act) {
				for _, cut := range cuts(c.plays(t, f).d.Loose(), c.shares...) {
					y := c.plays(t, f)
					y.d.Restart(cut)
					c.recovers(t, fmt.Sprint(f, cut), y)
				}
			}
		}
	}
}

// losses are the losses of power at an act.
func (c scenery) losses(act int) []api.Fault {
	l := []api.Fault{{Step: act, Kind: api.Late}}
	for _, part := range c.parts {
		l = append(l, api.Fault{Step: act, Kind: api.Lose, Part: part})
	}
	return l
}

// An act is refused, the store goes on, and power goes at a later act.
func TestP5_11ARefusalAndThenPower(t *testing.T) {
	c, runs := small, 0
	for refused := range c.howMany(t) {
		for _, kind := range []int{api.Ahead, api.Behind, api.Tear} {
			f := api.Fault{Step: refused, Kind: kind, Part: 15}
			for act := refused + 1; act < refused+7; act++ {
				for _, g := range []api.Fault{{Step: act, Kind: api.Late}, {Step: act, Kind: api.Lose, Part: 14}} {
					for _, cut := range cuts(c.plays(t, f, g).d.Loose(), 0, 4, 8) {
						y := c.plays(t, f, g)
						if y.d.Power() {
							continue // it had come to its end by then
						}
						y.d.Restart(cut)
						c.recovers(t, fmt.Sprint(f, g, cut), y)
						runs++
					}
				}
			}
		}
	}
	if runs < 1000 {
		t.Errorf("%d runs are too few to show anything", runs)
	}
}

// Behind a refused act another store is opened, without a loss of power: what it tells stands behind a later one.
func TestP5_11AnOpenBehindARefusal(t *testing.T) {
	t.Parallel()
	for _, c := range []scenery{small, large()} {
		for act := range c.howMany(t) {
			for _, kind := range kinds {
				for _, part := range c.parts {
					f := api.Fault{Step: act, Kind: kind, Part: part}
					for n := range len(c.stages) + 1 {
						ahead := c
						ahead.stages = c.stages[:n]
						y := ahead.plays(t, f)
						if y.d.Acts() <= act || y.maybe == nil {
							continue // the refusal comes later, or nothing is left over
						}
						l := c.recovers(t, fmt.Sprint(f, n), y)
						y.d.Restart(api.Cut{})
						c.finds(t, fmt.Sprint(f, n), y.d, l)
					}
				}
			}
		}
	}
}

// An Open that is broken off, by a refusal or by a loss of power, changes nothing of what a later one finds.
func TestP5_11RecoveryIsBrokenOff(t *testing.T) {
	t.Parallel()
	for _, c := range []scenery{small, large()} {
		for act := range c.howMany(t) {
			for _, f := range c.losses(act) {
				y := c.plays(t, f)
				all := y.d.Loose()
				y.d.Restart(all)
				want := c.recovers(t, fmt.Sprint(f), y)
				for i := range 3 {
					for _, kind := range []int{api.Ahead, api.Behind, api.Lose, api.Late} {
						c.brokenOff(t, f, api.Fault{Step: i, Kind: kind}, all, want)
					}
				}
			}
		}
	}
}

func (c scenery) brokenOff(t *testing.T, f, then api.Fault, kept api.Cut, want []string) {
	t.Helper()
	shares := []int{0, 4, 8}
	if then.Kind < api.Lose {
		shares = shares[:1] // a refusal keeps all
	}
	for _, share := range shares {
		y := c.plays(t, f)
		y.d.Restart(kept)
		g := then
		g.Step += y.d.Acts()
		y.d.Plan(g)
		if _, err := store.Open(y.d); err == nil {
			return // it makes no such act
		}
		if !y.d.Power() {
			y.d.Restart(cuts(y.d.Loose(), share)[0])
		}
		c.finds(t, fmt.Sprint(f, then, share), y.d, want)
	}
}

// No number is told for two unlike records that were both synced, but where a Cut took off the first one.
func TestP5_12NoNumberTwice(t *testing.T) {
	told := map[int]string{}
	d, s := stored(t)
	for i := range 300 {
		text := fmt.Sprint("record ", i)
		n, err := s.Append([]byte(text))
		if err != nil {
			t.Fatal(err)
		}
		switch i % 5 {
		case 1:
			plan(d, i/5%4, []int{api.Ahead, api.Tear, api.Room}[i/5%3], i)
		case 2:
			s.Drop()
			continue
		case 3:
			if i%4 == 0 {
				plan(d, i%3, api.Lose, i)
			}
		}
		if err := s.Sync(); err == nil {
			if was, ok := told[n]; ok && was != text {
				t.Fatalf("%d was %q, and is %q", n, was, text)
			}
			told[n] = text
		}
		if !d.Power() {
			d.Restart(api.Cut{Names: i % 2})
			s = open(t, d)
		}
	}
	if len(told) < 100 {
		t.Fatalf("%d numbers are too few to show anything", len(told))
	}
	for n, text := range told {
		if p, err := s.Get(n); string(p) != text || err != nil {
			t.Errorf("%d was %q, and is %q, %v", n, text, p, err)
		}
	}
}
