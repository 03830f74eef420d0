package disk_test

import (
	"fmt"
	"strings"
	"testing"

	"docket/api"
	"docket/disk"
)

func TestExamples1And2(t *testing.T) {
	d := fresh(t, 100)
	does(t, d, create("a"), lay("a", "xy"), syncFile("a"))
	d.Restart(api.Cut{})
	stands(t, "example 1", d, "")
	does(t, d, create("a"), syncNames(), lay("a", "xyz"))
	d.Restart(api.Cut{Bytes: []int{2}})
	stands(t, "example 2", d, "a=xy")
}

func TestExamples3And4(t *testing.T) {
	for n, want := range []string{"a=abcd", "a=a", "a=aQ"} {
		d := image(t, 100, "a=abcd")
		does(t, d, cut("a", 1), lay("a", "Q"))
		stands(t, "example 3, now", d, "a=aQ")
		d.Restart(api.Cut{Bytes: []int{n}})
		stands(t, "example 3", d, want)
	}
	for n, want := range []string{"a=1 b=2", "b=1"} {
		d := image(t, 100, "a=1", "b=2")
		does(t, d, rename("a", "b"))
		d.Restart(api.Cut{Names: n})
		stands(t, "example 4", d, want)
	}
}

func TestExamples5To8(t *testing.T) {
	d := fresh(t, 3)
	does(t, d, create("a"))
	answers(t, d, lay("a", "12345"), api.ErrSpace)
	if n, _ := d.Length("a"); n != 3 || d.Used() != 3 || d.Acts() != 2 {
		t.Errorf("example 5: Length %d, Used %d, Acts %d", n, d.Used(), d.Acts())
	}
	does(t, d, cut("a", 0), lay("a", "678"))

	d = fresh(t, 100)
	d.Plan(api.Fault{Step: 2, Kind: api.Behind})
	does(t, d, create("a"), lay("a", "x"))
	answers(t, d, syncFile("a"), api.ErrIO)
	d.Restart(api.Cut{Names: 1})
	stands(t, "example 6", d, "a=x")

	d = fresh(t, 100)
	d.Plan(api.Fault{Step: 1, Kind: api.Lose, Part: 1})
	does(t, d, create("a"))
	answers(t, d, lay("a", "xy"), api.ErrDown)
	if c := d.Loose(); fmt.Sprint(c) != "{[1] 1}" {
		t.Errorf("example 7: %v", c)
	}
	answers(t, d, length("a"), api.ErrDown)

	d = fresh(t, 100)
	does(t, d, create("a"), lay("a", "xy"), remove("a"))
	if c := d.Loose(); fmt.Sprint(c) != "{[2] 2}" {
		t.Errorf("example 8: %v", c)
	}
	d.Restart(api.Cut{Names: 1, Bytes: []int{9}})
	stands(t, "example 8", d, "a=xy")
}

func TestExample9(t *testing.T) {
	d := image(t, 10, "a=0123456789")
	does(t, d, cut("a", 0), create("b"), lay("b", "abcdefghij"), syncFile("b"), syncNames())
	d.Restart(api.Cut{})
	stands(t, "example 9", d, "a=0123456789 b=abcdefghij")
	if d.Used() != 20 {
		t.Errorf("example 9: Used %d", d.Used())
	}
	answers(t, d, lay("b", "x"), api.ErrSpace)
	stands(t, "example 9", d, "a=0123456789 b=abcdefghij")
}

func TestExample10(t *testing.T) {
	for _, space := range []int{-1, 1<<40 + 1} {
		_, err := disk.New(space)
		refused(t, "example 10", err, "New", "", api.ErrArg)
	}
	d := image(t, 10, "a=")
	for _, name := range []string{"", ".a", "A", strings.Repeat("a", 33)} {
		answers(t, d, create(name), api.ErrName)
	}
	does(t, d, syncFile("a"))
	if d.Acts() != 1 {
		t.Errorf("example 10: Acts %d", d.Acts())
	}
}
