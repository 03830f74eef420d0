package disk_test

import (
	"errors"
	"fmt"
	"maps"
	"math"
	"slices"
	"strings"
	"testing"

	"docket/api"
	"docket/disk"
)

// long is one byte more than a file may have. It is made once and never written to, so it takes up no memory.
var long = make([]byte, api.MaxFile+1)

// act is one of the seven acts, with what its refusals are to bear.
type act struct {
	call, name string
	do         func(d *disk.Disk) error
}

// String spells an act, its name cut short.
func (a act) String() string { return fmt.Sprintf("%s %.40q", a.call, a.name) }

func create(name string) act {
	return act{"Create", name, func(d *disk.Disk) error { return d.Create(name) }}
}

func lay(name, text string) act {
	return act{"Append", name, func(d *disk.Disk) error { return d.Append(name, []byte(text)) }}
}

func cut(name string, size int) act {
	return act{"Cut", name, func(d *disk.Disk) error { return d.Cut(name, size) }}
}

func syncFile(name string) act {
	return act{"Sync", name, func(d *disk.Disk) error { return d.Sync(name) }}
}

func rename(from, to string) act {
	return act{"Rename", from, func(d *disk.Disk) error { return d.Rename(from, to) }}
}

func remove(name string) act {
	return act{"Remove", name, func(d *disk.Disk) error { return d.Remove(name) }}
}

func syncNames() act { return act{"SyncNames", "", (*disk.Disk).SyncNames} }

func read(name string, at, n int) act {
	return act{"Read", name, func(d *disk.Disk) error { _, err := d.Read(name, at, n); return err }}
}

func length(name string) act {
	return act{"Length", name, func(d *disk.Disk) error { _, err := d.Length(name); return err }}
}

// fresh makes a disk without files.
func fresh(t *testing.T, space int) *disk.Disk {
	t.Helper()
	d, err := disk.New(space)
	if err != nil {
		t.Fatalf("New(%d): %v", space, err)
	}
	return d
}

// image makes a disk of files that are spelt "name=bytes".
func image(t *testing.T, space int, files ...string) *disk.Disk {
	t.Helper()
	m := map[string][]byte{}
	for _, f := range files {
		name, text, _ := strings.Cut(f, "=")
		m[name] = []byte(text)
	}
	d, err := disk.Image(m, space)
	if err != nil {
		t.Fatalf("Image: %v", err)
	}
	return d
}

// does does acts that are to go through.
func does(t *testing.T, d *disk.Disk, acts ...act) {
	t.Helper()
	for _, a := range acts {
		answers(t, d, a, api.OK)
	}
}

// answers does an act and holds its answer against a number.
func answers(t *testing.T, d *disk.Disk, a act, why api.Errno) {
	t.Helper()
	refused(t, a.String(), a.do(d), a.call, a.name, why)
}

// refused holds an answer against a call, a name and a number.
func refused(t *testing.T, what string, err error, call, name string, why api.Errno) {
	t.Helper()
	if why == api.OK {
		if err != nil {
			t.Errorf("%s: %.99v", what, err)
		}
		return
	}
	f, ok := err.(*disk.Fault)
	if !ok || f == nil {
		t.Errorf("%s: %.99v is no Fault, want %v", what, err, why)
		return
	}
	if *f != (disk.Fault{Call: call, Name: name, Why: why}) {
		t.Errorf("%s: %q, %.40q, %v; want %q, %.40q, %v", what, f.Call, f.Name, f.Why, call, name, why)
	}
}

// files spells files with their bytes, the names rising.
func files(m map[string][]byte) string {
	var l []string
	for _, name := range slices.Sorted(maps.Keys(m)) {
		l = append(l, name+"="+string(m[name]))
	}
	return strings.Join(l, " ")
}

// now spells what stands on a disk that has power.
func now(t *testing.T, d *disk.Disk) string {
	t.Helper()
	var l []string
	for name, size := range d.Walk() {
		b, err := d.Read(name, 0, size)
		if n, e := d.Length(name); err != nil || e != nil || n != size || len(b) != size {
			t.Errorf("%s: Walk %d, Length %d, Read %q: %v, %v", name, size, n, b, err, e)
		}
		l = append(l, name+"="+string(b))
	}
	return strings.Join(l, " ")
}

// stands holds what stands on a disk against a spelling.
func stands(t *testing.T, what string, d *disk.Disk, want string) {
	t.Helper()
	if got := now(t, d); got != want {
		t.Errorf("%s: %q stands, want %q", what, got, want)
	}
}

// told spells all that any call can tell, but for Acts.
func told(t *testing.T, d *disk.Disk) string {
	t.Helper()
	return fmt.Sprint(now(t, d), "; ", files(d.Kept()), "; ", d.Used(), d.Power(), d.Epoch(), d.Loose(), d.Claims("store"), d.Claims(""))
}

func TestP3_1New(t *testing.T) {
	for _, space := range []int{-1, -2, math.MinInt, 1<<40 + 1, math.MaxInt} {
		d, err := disk.New(space)
		refused(t, fmt.Sprint("New of ", space), err, "New", "", api.ErrArg)
		if d != nil {
			t.Errorf("New of %d: a disk beside a refusal", space)
		}
	}
	for _, space := range []int{0, 1, 1<<40 - 1, 1 << 40} {
		d := fresh(t, space)
		if d.Acts() != 0 || told(t, d) != "; ; 0 true 0 {[] 0} 0 0" {
			t.Errorf("New of %d: %s", space, told(t, d))
		}
		does(t, d, create("a"))
	}
	if fresh(t, 1) == fresh(t, 1) {
		t.Errorf("two calls, one disk")
	}
}

func TestP3_1Image(t *testing.T) {
	for _, c := range []struct {
		space int
		files []string
		want  string
	}{
		{0, nil, "; ; 0 true 0 {[] 0} 0 0"},
		{1 << 40, nil, "; ; 0 true 0 {[] 0} 0 0"},
		{0, []string{"b=", "a="}, "a= b=; a= b=; 0 true 0 {[0 0] 0} 0 0"},
		{3, []string{"b=xy", "a=z"}, "a=z b=xy; a=z b=xy; 3 true 0 {[0 0] 0} 0 0"},
		{9, []string{"-.=q"}, "-.=q; -.=q; 1 true 0 {[0] 0} 0 0"},
	} {
		d := image(t, c.space, c.files...)
		if d.Acts() != 0 || told(t, d) != c.want {
			t.Errorf("%v: Acts %d, %s", c.files, d.Acts(), told(t, d))
		}
		d.Restart(api.Cut{})
		stands(t, "behind a Restart", d, files(d.Kept()))
	}
	d, err := disk.Image(nil, 5)
	refused(t, "Image of nil", err, "", "", api.OK)
	does(t, d, create("a"), lay("a", "12345"))
}

func TestP3_1ImageIsRefused(t *testing.T) {
	many := map[string][]byte{}
	for i := range api.MaxFiles + 1 {
		many[fmt.Sprint("f", i)] = []byte("xy")
	}
	manyAndOneBad := maps.Clone(many)
	manyAndOneBad["F"] = nil
	xyz := []byte("xyz")
	for _, c := range []struct {
		what  string
		files map[string][]byte
		space int
		why   api.Errno
	}{
		{"no space", nil, -1, api.ErrArg},
		{"too much space", map[string][]byte{"a": xyz}, 1<<40 + 1, api.ErrArg},
		{"all is wrong", manyAndOneBad, -1, api.ErrArg},
		{"one name", map[string][]byte{"a": nil, "A": nil}, 0, api.ErrName},
		{"an empty name", map[string][]byte{"": nil}, 0, api.ErrName},
		{"name, count and room", manyAndOneBad, 1, api.ErrName},
		{"name and room", map[string][]byte{"a": xyz, ".": xyz}, 1, api.ErrName},
		{"count and room", many, 1, api.ErrMany},
		{"count", many, 1 << 40, api.ErrMany},
		{"room for one alone", map[string][]byte{"a": xyz, "b": xyz}, 5, api.ErrSpace},
		{"room for none", map[string][]byte{"a": xyz}, 2, api.ErrSpace},
		{"a file too long", map[string][]byte{"a": long}, 1 << 40, api.ErrSpace},
	} {
		d, err := disk.Image(c.files, c.space)
		refused(t, c.what, err, "Image", "", c.why)
		if d != nil {
			t.Errorf("%s: a disk beside a refusal", c.what)
		}
	}
	delete(many, "f0")
	d, err := disk.Image(many, 2*api.MaxFiles)
	refused(t, "the most files, no room left", err, "", "", api.OK)
	if d.Used() != 2*api.MaxFiles || len(d.Loose().Bytes) != api.MaxFiles {
		t.Errorf("Used %d, %d files within reach", d.Used(), len(d.Loose().Bytes))
	}
}

func TestP3_1ImageCopies(t *testing.T) {
	whole := []byte("abcdefgh")
	m := map[string][]byte{"a": whole[:3], "b": whole[:3]}
	d, err := disk.Image(m, 100)
	refused(t, "Image", err, "", "", api.OK)
	does(t, d, lay("a", "X"), syncFile("a"), cut("b", 1), lay("b", "Y"))
	if string(whole) != "abcdefgh" || len(m) != 2 {
		t.Errorf("what was handed in is %q now", whole)
	}
	clear(whole)
	m["c"] = nil
	delete(m, "a")
	stands(t, "behind a change of what was handed in", d, "a=abcX b=aY")
	d.Restart(api.Cut{})
	stands(t, "behind a Restart", d, "a=abcX b=abc")
}

func TestP3_1Names(t *testing.T) {
	right := func(c byte, first bool) bool {
		return c >= 'a' && c <= 'z' || c >= '0' && c <= '9' || c == '-' || c == '.' && !first
	}
	for c := range 256 {
		namedSo(t, string([]byte{byte(c)}), right(byte(c), true))
		namedSo(t, string([]byte{byte(c), 'a'}), right(byte(c), true))
		namedSo(t, string([]byte{'a', byte(c)}), right(byte(c), false))
		namedSo(t, string([]byte{'a', byte(c), 'a'}), right(byte(c), false))
		namedSo(t, strings.Repeat("a", 31)+string([]byte{byte(c)}), right(byte(c), false))
	}
	for n := range 70 {
		namedSo(t, strings.Repeat("z", n), 1 <= n && n <= 32)
		namedSo(t, "0"+strings.Repeat(".", n), n <= 31)
	}
	for _, name := range []string{"", "ä", "a\xff", "seg-00000", "heads.new", "a/b", "a b", "a_b", "..", strings.Repeat("a", 1<<20)} {
		namedSo(t, name, name == "seg-00000" || name == "heads.new")
	}
}

// namedSo holds every call that takes a name against whether a text is one.
func namedSo(t *testing.T, name string, ok bool) {
	t.Helper()
	two := map[string][]byte{name: nil, "other": nil}
	if !ok {
		_, err := disk.Image(two, 10)
		refused(t, "Image", err, "Image", "", api.ErrName)
		d := image(t, 10, "other=x")
		for _, a := range []act{create(name), lay(name, "x"), cut(name, -1), syncFile(name), rename(name, "other"), rename("other", name), rename("missing", name), remove(name), read(name, -1, 0), length(name)} {
			was := told(t, d)
			answers(t, d, a, api.ErrName)
			if d.Acts() != 0 || told(t, d) != was {
				t.Errorf("%v: a refused call has changed something", a)
			}
		}
		return
	}
	d, err := disk.Image(two, 10)
	refused(t, fmt.Sprintf("Image of %.40q", name), err, "", "", api.OK)
	does(t, d, remove(name), create(name), lay(name, "x"), cut(name, 0), syncFile(name), read(name, 0, 0), length(name), rename("other", name), rename(name, "other"))
}

func TestP3_11Faults(t *testing.T) {
	for _, why := range []api.Errno{api.OK, api.ErrArg, api.ErrStale, api.ErrIO, api.ErrStopped, -1, 9999} {
		for _, name := range []string{"", "a", "A\x00\xff"} {
			f := disk.NewFault("store", name, why)
			if f.Call != "store" || f.Name != name || f.Why != why {
				t.Errorf("NewFault: %v", *f)
			}
			if f.Unwrap() != error(why) || !errors.Is(f, why) || f.Error() == "" {
				t.Errorf("a Fault of %d: %v, %q", why, f.Unwrap(), f.Error())
			}
			if f == disk.NewFault("store", name, why) {
				t.Errorf("two calls, one Fault")
			}
		}
	}
	if (&disk.Fault{}).Error() == "" || disk.NewFault("", "", api.ErrIO).Error() == "" {
		t.Errorf("no words")
	}
}

func TestP3_11EachRefusalIsANewFault(t *testing.T) {
	d := image(t, 10, "a=abc")
	d.Plan(api.Fault{Step: 0, Kind: api.Ahead}, api.Fault{Step: 1, Kind: api.Ahead})
	met := map[error]string{}
	look := func(what string, err error) {
		t.Helper()
		var f *disk.Fault
		if !errors.As(err, &f) || !errors.Is(err, f.Why) || errors.Is(err, api.ErrStale) {
			t.Errorf("%s: %v", what, err)
		}
		if other, ok := met[err]; ok {
			t.Errorf("%s: the Fault of %s", what, other)
		}
		met[err] = what
	}
	acts := []act{create("a"), create("A"), lay("b", ""), cut("a", 4), syncFile("b"), rename("b", "a"), remove("b"), read("a", 4, 0), read("b", 0, 0), length("b"), length("")}
	for range 2 {
		for _, a := range acts {
			look(a.String(), a.do(d))
		}
		_, err := disk.New(-1)
		look("New", err)
		_, err = disk.Image(nil, -1)
		look("Image", err)
		look("Sync", d.Sync("a"))
	}
	d.Plan(api.Fault{Step: d.Acts(), Kind: api.Lose})
	look("SyncNames", d.SyncNames())
	look("SyncNames", d.SyncNames())
	if len(met) != 2*len(acts)+6+2 {
		t.Errorf("%d Faults", len(met))
	}
}

func TestP3_11WhatHoldsIsNil(t *testing.T) {
	d := image(t, 100, "a=abc", "b=")
	for _, a := range []act{create("c"), lay("a", "x"), lay("a", ""), cut("a", 1), cut("a", 1), syncFile("a"), rename("a", "b"), rename("b", "b"), remove("b"), syncNames(), read("c", 0, 0), length("c")} {
		if err := a.do(d); err != nil {
			t.Errorf("%s: %#v is not nil", a.call, err)
		}
	}
}

// The greatest file there may be has two GiB.
func TestTheGreatestFile(t *testing.T) {
	if testing.Short() {
		t.Skip("copies two GiB")
	}
	t.Parallel()
	d, err := disk.Image(map[string][]byte{"a": long[:api.MaxFile], "b": []byte("xy")}, api.MaxFile+2)
	refused(t, "Image", err, "", "", api.OK)
	answers(t, d, lay("a", "x"), api.ErrSpace)
	if d.Acts() != 0 || d.Used() != api.MaxFile+2 {
		t.Errorf("Acts %d, Used %d", d.Acts(), d.Used())
	}
	does(t, d, lay("a", ""), remove("b"), cut("a", api.MaxFile-1))
	answers(t, d, lay("a", "xy"), api.ErrSpace)
	if d.Acts() != 3 || d.Used() != api.MaxFile-1 {
		t.Errorf("Acts %d, Used %d", d.Acts(), d.Used())
	}
}
