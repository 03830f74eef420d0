package frame_test

import (
	"bytes"
	"iter"
	"math"
	"math/rand"
	"slices"
	"strings"
	"testing"

	"docket/api"
	"docket/frame"
)

// ends tells what End is to answer, by what Unpack is to, and the records of the frames that it counts.
func ends(n int, b []byte) ([]string, int, api.Errno) {
	var records []string
	size := 0
	for size < len(b) {
		p, length, why := told(n+len(records), b[size:])
		if why != api.OK {
			return records, size, why
		}
		records = append(records, string(p))
		size += length
	}
	return records, size, api.OK
}

// walks holds End and Rows against that.
func walks(t *testing.T, n int, b []byte) api.Errno {
	t.Helper()
	records, wantSize, want := ends(n, b)
	many, size, why := frame.End(n, b)
	if many != len(records) || size != wantSize || why != want {
		t.Errorf("End(%d, %d bytes %.60v): %d, %d, %v; want %d, %d, %v", n, len(b), b, many, size, why, len(records), wantSize, want)
	}
	goes(t, "Rows", frame.Rows(n, b), n, records)
	return why
}

// goes looks whether an iterator tells records, the first with the number n.
func goes(t *testing.T, what string, rows iter.Seq2[int, []byte], n int, want []string) {
	t.Helper()
	var got []string
	for i, p := range rows {
		if i != n+len(got) {
			t.Errorf("%s: the number %d in the place of %d", what, i, n+len(got))
		}
		got = append(got, string(p))
	}
	if !slices.Equal(got, want) {
		t.Errorf("%s: %.60q, want %.60q", what, got, want)
	}
}

func TestP4_4EndOfAnyBytes(t *testing.T) {
	r := rand.New(rand.NewSource(4))
	seen := map[api.Errno]int{}
	for range 5000 {
		n := anyFirst(r)
		b := row(t, n, anyRecords(r)...)
		switch r.Intn(4) {
		case 0:
			b = b[:r.Intn(len(b)+1)]
		case 1:
			b = with(b, byte(209-r.Intn(2)), byte(r.Intn(2)))
		case 2:
			if len(b) > 0 {
				b[r.Intn(len(b))] ^= 1 << r.Intn(8)
			}
		}
		seen[walks(t, n, b)]++
		walks(t, n+1, b)
	}
	for _, why := range []api.Errno{api.OK, api.ErrTorn, api.ErrSum} {
		if seen[why] < 100 {
			t.Errorf("%v was told %d times: too few to show anything", why, seen[why])
		}
	}
}

func TestP4_4TheNumbersRise(t *testing.T) {
	a, b, c := pack(t, 5, "a"), pack(t, 6, "b"), pack(t, 7, "c")
	join := func(l ...[]byte) []byte { return bytes.Join(l, nil) }
	for _, x := range []struct {
		what string
		n    int
		b    []byte
		many int
		why  api.Errno
	}{
		{"in order", 5, join(a, b, c), 3, api.OK}, {"from another number", 4, join(a, b, c), 0, api.ErrSum}, {"from the second on", 6, join(b, c), 2, api.OK},
		{"one left out", 5, join(a, c), 1, api.ErrSum}, {"turned about", 5, join(b, a), 0, api.ErrSum}, {"one twice", 5, join(a, a), 1, api.ErrSum},
		{"a wrong byte ahead of a whole frame", 5, join(a, []byte{0}, b), 1, api.ErrSum}, {"a torn one ahead of a whole frame", 5, join(a, b[:7], b), 1, api.ErrSum},
	} {
		many, size, why := frame.End(x.n, x.b)
		if many != x.many || size != 14*x.many || why != x.why {
			t.Errorf("%s: %d, %d, %v; want %d, %d, %v", x.what, many, size, why, x.many, 14*x.many, x.why)
		}
		walks(t, x.n, x.b)
	}
}

func TestP4_4NumbersThatMayNotBe(t *testing.T) {
	for _, n := range wrongNumbers {
		for _, b := range [][]byte{nil, {}} {
			if many, size, why := frame.End(n, b); many != 0 || size != 0 || why != api.OK {
				t.Errorf("End(%d) of no bytes: %d, %d, %v", n, many, size, why)
			}
			goes(t, "Rows of no bytes", frame.Rows(n, b), n, nil)
		}
		for _, b := range [][]byte{{208}, {209}, pack(t, 0, "a")} {
			if why := walks(t, n, b); why != api.ErrArg {
				t.Errorf("End(%d, %v): %v, want ErrArg", n, b, why)
			}
		}
	}
	last := row(t, 1<<40-2, "y", "z")
	for _, behind := range [][]byte{{209}, {208}, pack(t, 0, "a")} {
		many, size, why := frame.End(1<<40-2, with(last, behind...))
		if many != 2 || size != 28 || why != api.ErrArg {
			t.Errorf("behind the last number: %d, %d, %v", many, size, why)
		}
		walks(t, 1<<40-2, with(last, behind...))
	}
	if why := walks(t, 1<<40-2, last); why != api.OK {
		t.Errorf("up to the last number: %v", why)
	}
}

func TestP4_4EndOfGreatFrames(t *testing.T) {
	most := strings.Repeat("m", 65536)
	b := row(t, 9, most, "", most, "x")
	if many, size, why := frame.End(9, b); many != 4 || size != len(b) || why != api.OK {
		t.Errorf("%d, %d, %v", many, size, why)
	}
	goes(t, "great frames", frame.Rows(9, b), 9, []string{most, "", most, "x"})
	for _, left := range []int{1, 13, 14, 15, 40000, 65562} {
		walks(t, 9, b[:len(b)-left])
	}
}

func TestP4_4EndChangesNothing(t *testing.T) {
	f := row(t, 0, "a", "b")
	b, whole := roomy(with(f, 209, 0))
	frame.End(0, b)
	for range frame.Rows(0, b) {
	}
	if !bytes.Equal(whole, with(f, []byte("\xd1\x00GHIJK")...)) {
		t.Errorf("the bytes or their spare room were changed: %v", whole)
	}
}

func TestP4_5RowsCopyTheirBytesWhenCalled(t *testing.T) {
	f := row(t, 5, "ab", "", "c")
	b, whole := roomy(f)
	rows := frame.Rows(5, b)
	clear(whole)
	goes(t, "changed ahead of the first step", rows, 5, []string{"ab", "", "c"})

	copy(b, f)
	rows = frame.Rows(5, b)
	for n, p := range rows {
		clear(b)
		if n == 7 && string(p) != "c" {
			t.Errorf("changed between two steps: %q", p)
		}
	}
	goes(t, "changed between two steps", rows, 5, []string{"ab", "", "c"})
}

func TestP4_5RowsBeginAnew(t *testing.T) {
	rows := frame.Rows(0, row(t, 0, "a", "b", "c"))
	for n := range rows {
		if n == 1 {
			break
		}
	}
	goes(t, "behind one that was broken off", rows, 0, []string{"a", "b", "c"})
	var pairs []string
	for _, p := range rows {
		for _, q := range rows {
			pairs = append(pairs, string(p)+string(q))
		}
	}
	if strings.Join(pairs, " ") != "aa ab ac ba bb bc ca cb cc" {
		t.Errorf("one within another: %q", pairs)
	}
	goes(t, "behind these", rows, 0, []string{"a", "b", "c"})
}

// What is laid behind a lent record is laid into memory of the reader's own.
func TestP4_5ALentRecordHasNoSpareRoom(t *testing.T) {
	rows := frame.Rows(0, row(t, 0, "a", "", "c"))
	for range 2 {
		n := 0
		for _, p := range rows {
			if p = append(p, "much behind it"...); string(p) == "" {
				t.Fatal("nothing was laid")
			}
			n++
		}
		if n != 3 {
			t.Errorf("%d records", n)
		}
	}
	goes(t, "behind that", rows, 0, []string{"a", "", "c"})
}

func TestP4_5RowsEndWhereTheFramesDo(t *testing.T) {
	f := row(t, 3, "a", "b")
	for _, behind := range [][]byte{nil, {209}, {208}, pack(t, 3, "c"), pack(t, 5, "c")[:13]} {
		goes(t, "bytes behind", frame.Rows(3, with(f, behind...)), 3, []string{"a", "b"})
	}
	goes(t, "another number", frame.Rows(4, f), 4, nil)
	goes(t, "no number", frame.Rows(math.MinInt, f), math.MinInt, nil)
}

// Of each beginning of packed frames End answers the whole ones, and OK or ErrTorn.
func TestP4_7ABeginningIsTorn(t *testing.T) {
	r := rand.New(rand.NewSource(7))
	for range 150 {
		n := anyFirst(r)
		records := anyRecords(r)
		b := row(t, n, records...)
		whole, end := 0, 0 // of the frames that are whole, and where the last one of them ends
		for i := range len(b) + 1 {
			if whole < len(records) && i == end+13+len(records[whole]) {
				whole, end = whole+1, i
			}
			want := api.OK
			if i > end {
				want = api.ErrTorn
			}
			many, size, why := frame.End(n, b[:i])
			if many != whole || size != end || why != want {
				t.Fatalf("%d of %d bytes: %d, %d, %v; want %d, %d, %v", i, len(b), many, size, why, whole, end, want)
			}
		}
	}
}
