package store_test

import (
	"fmt"
	"maps"
	"slices"
	"strings"
	"sync"
	"testing"

	"docket/api"
	"docket/disk"
	"docket/frame"
	"docket/store"
)

// space is more than any disk of these tests comes to hold.
const space = 1 << 30

// big is the longest record; fifteen of its frames fit a segment.
var big = strings.Repeat("k", api.MaxEvent)

// upTo makes sixteen records whose frames leave so many bytes of room in segment 0.
func upTo(room int) []string {
	l := slices.Repeat([]string{big}, 15)
	return append(l, strings.Repeat("r", api.MaxSegment-15*frame.Most-frame.Extra-room))
}

// framed is a record with its number.
type framed struct {
	number int
	record string
}

// frames keeps what packed has made: the long ones take their time. Tests that run beside one another share it.
var (
	frames  = map[framed][]byte{}
	holding sync.Mutex
)

// packed makes the frame of a record.
func packed(number int, p string) []byte {
	holding.Lock()
	defer holding.Unlock()
	of := framed{number, p}
	if frames[of] == nil {
		b, why := frame.Pack(number, []byte(p))
		if why != api.OK {
			panic(why)
		}
		frames[of] = slices.Clip(b)
	}
	return frames[of]
}

func segmentName(k int) string { return fmt.Sprintf("seg-%05x", k) }

// segments makes the files of records, as the chapter's words lay them.
func segments(records ...string) map[string][]byte {
	files, k := map[string][]byte{}, -1
	for i, p := range records {
		b := packed(i, p)
		if k < 0 || len(files[segmentName(k)])+len(b) > api.MaxSegment {
			k++
		}
		files[segmentName(k)] = append(files[segmentName(k)], b...)
	}
	return files
}

// image makes a disk of files, all safe.
func image(t *testing.T, files map[string][]byte) *disk.Disk {
	t.Helper()
	d, err := disk.Image(files, space)
	if err != nil {
		t.Fatal(err)
	}
	return d
}

// with adds a file to files.
func with(files map[string][]byte, name string, b []byte) map[string][]byte {
	more := maps.Clone(files)
	more[name] = b
	return more
}

func open(t *testing.T, d *disk.Disk) *store.Store {
	t.Helper()
	s, err := store.Open(d)
	if err != nil || s == nil {
		t.Fatalf("Open: %v", err)
	}
	return s
}

func look(t *testing.T, d *disk.Disk) *store.Store {
	t.Helper()
	s, err := store.Look(d)
	if err != nil || s == nil {
		t.Fatalf("Look: %v", err)
	}
	return s
}

// stored makes a disk of records, all safe, and opens its store.
func stored(t *testing.T, records ...string) (*disk.Disk, *store.Store) {
	t.Helper()
	d := image(t, segments(records...))
	return d, open(t, d)
}

// waits lets records wait.
func waits(t *testing.T, s *store.Store, records ...string) {
	t.Helper()
	for _, p := range records {
		want := s.Next()
		if n, err := s.Append([]byte(p)); n != want || err != nil {
			t.Fatalf("Append: %d, %v; want %d", n, err, want)
		}
	}
}

// syncs lets records wait and lays them down.
func syncs(t *testing.T, s *store.Store, records ...string) {
	t.Helper()
	waits(t, s, records...)
	if err := s.Sync(); err != nil {
		t.Fatalf("Sync: %v", err)
	}
}

// spelt spells records, long ones cut short.
func spelt(records []string) string {
	var l []string
	for _, p := range records {
		if len(p) > 20 {
			p = fmt.Sprint(p[:8], "..", len(p), "..", p[len(p)-8:])
		}
		l = append(l, p)
	}
	return fmt.Sprintf("%q", l)
}

// records tells what Rows and Get tell of a store, which is to be the same.
func records(t *testing.T, s *store.Store) []string {
	t.Helper()
	var l []string
	for i, p := range s.Rows(0) {
		q, err := s.Get(i)
		if i != len(l) || err != nil || string(p) != string(q) {
			t.Errorf("record %d: Rows tells %d %.20q, Get %.20q, %v", len(l), i, p, q, err)
		}
		l = append(l, string(p))
	}
	return l
}

// holds holds a store's records against these, of which so many are synced.
func holds(t *testing.T, what string, s *store.Store, synced int, want ...string) {
	t.Helper()
	if got := records(t, s); !slices.Equal(got, want) || s.Next() != len(want) || s.Synced() != synced {
		t.Errorf("%s: %s, Next %d, Synced %d; want %s, Synced %d", what, spelt(got), s.Next(), s.Synced(), spelt(want), synced)
	}
}

// refused holds an answer against a call, a name and a number.
func refused(t *testing.T, what string, err error, call, name string, why api.Errno) {
	t.Helper()
	if why == api.OK {
		if err != nil {
			t.Errorf("%s: %v", what, err)
		}
		return
	}
	f, ok := err.(*disk.Fault)
	if !ok || f == nil {
		t.Errorf("%s: %v is no Fault; want %s %q: %v", what, err, call, name, why)
		return
	}
	if *f != (disk.Fault{Call: call, Name: name, Why: why}) {
		t.Errorf("%s: %s %q: %v; want %s %q: %v", what, f.Call, f.Name, f.Why, call, name, why)
	}
}

// refuses holds an answer against a refusal of the store's own.
func refuses(t *testing.T, what string, err error, name string, why api.Errno) {
	t.Helper()
	refused(t, what, err, "store", name, why)
}

// quiet holds that a call makes no act.
func quiet(t *testing.T, what string, d *disk.Disk, call func()) {
	t.Helper()
	was := d.Acts()
	call()
	if d.Acts() != was {
		t.Errorf("%s: %d acts, want none", what, d.Acts()-was)
	}
}

// plan lets the n-th act from now on (0: the next one) fail.
func plan(d *disk.Disk, n, kind, part int) {
	d.Plan(api.Fault{Step: d.Acts() + n, Kind: kind, Part: part})
}

// now tells what stands on a disk that has power.
func now(d *disk.Disk) map[string][]byte {
	files := map[string][]byte{}
	for name, n := range d.Walk() {
		files[name], _ = d.Read(name, 0, n)
	}
	return files
}

// same tells whether files are the same.
func same(a, b map[string][]byte) bool {
	return maps.EqualFunc(a, b, func(p, q []byte) bool { return string(p) == string(q) })
}

// stands holds that a disk has these files, and that all of it is safe.
func stands(t *testing.T, what string, d *disk.Disk, want map[string][]byte) {
	t.Helper()
	if !same(now(d), want) || !same(d.Kept(), want) {
		t.Errorf("%s: %s stand, %s are safe; want %s", what, sizes(now(d)), sizes(d.Kept()), sizes(want))
	}
}

func sizes(files map[string][]byte) string {
	var l []string
	for _, name := range slices.Sorted(maps.Keys(files)) {
		l = append(l, fmt.Sprint(name, " ", len(files[name])))
	}
	return fmt.Sprint(l)
}

// scene makes anew a disk, and a call of it that is to be looked at.
type scene func() (*disk.Disk, func() error)

// did tells the acts of a scene's call by their names: what the i-th one is, the refusal tells when it is planned to be refused. Segments stand there by their numbers.
func did(t *testing.T, make scene) string {
	t.Helper()
	d, call := make()
	was := d.Acts()
	if err := call(); err != nil {
		t.Fatalf("%v", err)
	}
	var l []string
	for i := range d.Acts() - was {
		d, call := make()
		plan(d, i, api.Ahead, 0)
		f, ok := call().(*disk.Fault)
		if !ok || f == nil || f.Why != api.ErrIO {
			t.Fatalf("act %d is refused: %v", i, f)
		}
		l = append(l, strings.TrimSpace(f.Call+" "+strings.TrimPrefix(f.Name, "seg-0000")))
	}
	return strings.Join(l, ", ")
}

// makes holds the acts of a scene's call against a spelling.
func makes(t *testing.T, what string, make scene, want string) {
	t.Helper()
	if got := did(t, make); got != want {
		t.Errorf("%s: %s; want %s", what, got, want)
	}
}

// opening is a scene of an Open of a disk that is made anew.
func opening(make func() *disk.Disk) scene {
	return func() (*disk.Disk, func() error) {
		d := make()
		return d, func() error { _, err := store.Open(d); return err }
	}
}
