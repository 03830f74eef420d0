package store_test

import (
	"fmt"
	"math/rand"
	"slices"
	"testing"

	"docket/api"
	"docket/disk"
	"docket/frame"
	"docket/store"
)

// plain is the chapter's store, written down in the plainest way: the records are a list of texts, and where their frames lie is worked out of them each time.
type plain struct {
	d             *disk.Disk
	epoch, claims int
	looked        bool
	records       []string
	synced        int
	left          bool
	names, bytes  bool // tried, and not safe since
}

// atMost is more segments than a script comes to.
const atMost = 20

func own(name string, why api.Errno) error {
	if why == api.OK {
		return nil
	}
	return disk.NewFault("store", name, why)
}

// find finds the whole records; what is held is not what stores leave: false.
func (m *plain) find() bool {
	var whole []string
	ends := false
	for k := range atMost {
		n, err := m.d.Length(segmentName(k))
		if err != nil || ends {
			ends = true
			continue
		}
		b, _ := m.d.Read(segmentName(k), 0, n)
		at := 0
		for at < n {
			p, size, why := frame.Unpack(len(m.records), b[at:])
			if why != api.OK {
				ends = true
				break
			}
			m.records = append(m.records, string(p))
			at += size
		}
		if at > 0 {
			whole = append(whole, string(b[:at]))
		}
	}
	files := segments(m.records...)
	for k, b := range whole {
		if string(files[segmentName(k)]) != b {
			return false
		}
	}
	m.synced = len(m.records)
	return len(files) == len(whole)
}

func plainLook(d *disk.Disk, call string) (*plain, error) {
	if !d.Power() {
		return nil, own(call, api.ErrDown)
	}
	m := &plain{d: d, epoch: d.Epoch(), looked: true}
	if !m.find() {
		return nil, own(call, api.ErrCorrupt)
	}
	return m, nil
}

func plainOpen(d *disk.Disk) (*plain, error) {
	m, err := plainLook(d, "Open")
	if err != nil {
		return nil, err
	}
	files := segments(m.records...)
	last := segmentName(len(files) - 1)
	if _, err := d.Length(segmentName(len(files))); err == nil {
		if err := d.Remove(segmentName(len(files))); err != nil {
			return nil, err
		}
	} else if n, _ := d.Length(last); n > len(files[last]) {
		if err := d.Cut(last, len(files[last])); err != nil {
			return nil, err
		}
	}
	if c := d.Loose(); c.Names > 0 || slices.ContainsFunc(c.Bytes, func(n int) bool { return n > 0 }) {
		if len(files) > 0 {
			if err := d.Sync(last); err != nil {
				return nil, err
			}
		}
		if err := d.SyncNames(); err != nil {
			return nil, err
		}
	}
	m.looked, m.claims = false, d.Claim("store")
	return m, nil
}

func (m *plain) why() api.Errno {
	if !m.d.Power() {
		return api.ErrDown
	}
	if m.d.Epoch() != m.epoch || !m.looked && m.d.Claims("store") != m.claims {
		return api.ErrStale
	}
	return api.OK
}

func (m *plain) locked() api.Errno {
	if why := m.why(); why != api.OK || !m.looked {
		return why
	}
	return api.ErrArg
}

func (m *plain) append(p string) (int, error) {
	if why := m.locked(); why != api.OK {
		return 0, own("Append", why)
	}
	if len(p) > api.MaxEvent {
		return 0, own("Append", api.ErrLong)
	}
	m.records = append(slices.Clone(m.records), p)
	return len(m.records) - 1, nil
}

func (m *plain) drop() { m.records = m.records[:m.synced] }

func (m *plain) sync() error {
	if why := m.locked(); why != api.OK {
		return own("Sync", why)
	}
	if len(m.records) == m.synced && !m.left {
		return nil
	}
	waited := m.records
	m.drop()
	if m.left {
		if err := m.takeBack(); err != nil {
			return err
		}
	}
	m.left = true
	ahead, whole := segments(m.records...), segments(waited...)
	for k := range len(whole) {
		name := segmentName(k)
		if len(ahead[name]) == len(whole[name]) {
			continue
		}
		if ahead[name] == nil {
			m.names = true
			if err := m.d.Create(name); err != nil {
				return err
			}
		}
		m.bytes = true
		if err := m.d.Append(name, whole[name][len(ahead[name]):]); err != nil {
			return err
		}
		if err := m.d.Sync(name); err != nil {
			return err
		}
		m.bytes = false
		if ahead[name] == nil {
			if err := m.d.SyncNames(); err != nil {
				return err
			}
			m.names = false
		}
	}
	m.records, m.synced, m.left = waited, len(waited), false
	return nil
}

func (m *plain) cut(size int) error {
	if why := m.locked(); why != api.OK {
		return own("Cut", why)
	}
	if size < 0 || size > m.synced {
		return own("Cut", api.ErrArg)
	}
	m.left = m.left || size < m.synced
	m.records, m.synced = m.records[:size], size
	if !m.left {
		return nil
	}
	return m.takeBack()
}

func (m *plain) takeBack() error {
	files := segments(m.records[:m.synced]...)
	for k := atMost; k >= len(files); k-- {
		if _, err := m.d.Length(segmentName(k)); err != nil {
			continue
		}
		m.names = true
		if err := m.d.Remove(segmentName(k)); err != nil {
			return err
		}
	}
	if m.names {
		if err := m.d.SyncNames(); err != nil {
			return err
		}
		m.names = false
	}
	last := segmentName(len(files) - 1)
	if n, _ := m.d.Length(last); len(files) > 0 && n > len(files[last]) {
		m.bytes = true
		if err := m.d.Cut(last, len(files[last])); err != nil {
			return err
		}
	}
	if len(files) > 0 && m.bytes {
		if err := m.d.Sync(last); err != nil {
			return err
		}
		m.bytes = false
	}
	m.left = false
	return nil
}

// get spells what Get answers.
func (m *plain) get(i int) string {
	why := m.why()
	switch {
	case why != api.OK:
	case i < 0:
		why = api.ErrArg
	case i >= len(m.records):
		why = api.ErrSize
	default:
		return fmt.Sprintf("%.40q", m.records[i])
	}
	return errorSpelt(own("Get", why))
}

// rows spells what Rows tells.
func (m *plain) rows(from int) string {
	var l []string
	for i := max(from, 0); i < len(m.records) && m.why() == api.OK; i++ {
		l = append(l, fmt.Sprintf("%d %.40q", i, m.records[i]))
	}
	return fmt.Sprint(l)
}

func errorSpelt(err error) string {
	if err == nil {
		return "OK"
	}
	f, ok := err.(*disk.Fault)
	if !ok {
		return fmt.Sprintf("%T", err)
	}
	return fmt.Sprintf("%s %q %v", f.Call, f.Name, f.Why)
}

// script runs calls that are drawn over two disks, the one under stores, the other under plain ones.
type script struct {
	t      *testing.T
	r      *rand.Rand
	d, e   *disk.Disk
	stores []*store.Store
	plains []*plain
	base   int      // so many records are seldom cut off: the room behind them is what is asked for
	acks   []string // what Synced has told of, and no Cut was asked to take off
	met    map[string]int
	what   string
	state  string // of the disk, when its bytes were looked at last
}

func (x *script) answers(call, got, want string) {
	x.t.Helper()
	if got != want {
		x.t.Fatalf("%s: %s answers %s, want %s", x.what, call, got, want)
	}
	x.met[call+" "+want]++
}

// stateOf spells all that a disk tells, but the bytes.
func stateOf(d *disk.Disk) string {
	s := fmt.Sprint(d.Acts(), d.Power(), d.Epoch(), d.Claims("store"), d.Loose())
	for name, n := range d.Walk() {
		s += fmt.Sprint(" ", name, " ", n)
	}
	return s
}

// looks holds the disks and all stores against the plain ones.
func (x *script) looks() {
	x.t.Helper()
	got, want := stateOf(x.d), stateOf(x.e)
	if got != want {
		x.t.Fatalf("%s: the disk is\n%s, want\n%s", x.what, got, want)
	}
	if got != x.state && (!same(now(x.d), now(x.e)) || !same(x.d.Kept(), x.e.Kept())) {
		x.t.Fatalf("%s: the disk has other bytes: %s", x.what, got)
	}
	x.state = got
	for i, s := range x.stores {
		m := x.plains[i]
		got := fmt.Sprint(s.Next(), s.Synced(), s.Left(), errorSpelt(s.Live()))
		if want := fmt.Sprint(len(m.records), m.synced, m.left, errorSpelt(own("Live", m.why()))); got != want {
			x.t.Fatalf("%s: store %d is %s, want %s", x.what, i, got, want)
		}
		if got, want := spellRows(s, x.base), m.rows(x.base); got != want {
			x.t.Fatalf("%s: store %d tells %s, want %s", x.what, i, got, want)
		}
		if s.Live() == nil && !m.looked {
			x.keeps(m.records[:m.synced])
		}
	}
}

func spellRows(s *store.Store, from int) string {
	var l []string
	for i, p := range s.Rows(from) {
		l = append(l, fmt.Sprintf("%d %.40q", i, p))
	}
	return fmt.Sprint(l)
}

// keeps holds that these synced records begin with what was told.
func (x *script) keeps(synced []string) {
	x.t.Helper()
	if len(synced) < len(x.acks) || !slices.Equal(synced[:len(x.acks)], x.acks) {
		x.t.Fatalf("%s: %s are synced; %s were told", x.what, spelt(synced), spelt(x.acks))
	}
	x.acks = synced
}

func (x *script) drawn() string {
	n := x.r.Intn(7)
	switch x.r.Intn(40) {
	case 0:
		n = api.MaxEvent + x.r.Intn(2)
	case 1:
		n = 500
	}
	b := make([]byte, n)
	for i := range b {
		b[i] = byte('a' + x.r.Intn(26))
	}
	return string(b)
}

// drawnStore draws a store: mostly the one that may write; -1: there is none.
func (x *script) drawnStore() int {
	if len(x.stores) > 0 && x.r.Intn(5) == 0 {
		return x.r.Intn(len(x.stores))
	}
	for i := len(x.plains) - 1; i >= 0; i-- {
		if x.plains[i].locked() == api.OK {
			return i
		}
	}
	return -1
}

// step makes one drawn call.
func (x *script) step() {
	x.t.Helper()
	i, n := x.drawnStore(), x.r.Intn(100)
	if !x.d.Power() && n < 30 {
		n = 99
	}
	switch {
	case n >= 97:
		x.restart()
	case n >= 94 || i < 0:
		if x.r.Intn(3) == 0 {
			x.plan()
		}
		x.open()
	case n >= 91:
		x.look()
	case n >= 73:
		x.plan()
	case n >= 70:
		x.note()
	default:
		x.call(n, x.stores[i], x.plains[i])
	}
	x.looks()
}

func (x *script) call(n int, s *store.Store, m *plain) {
	x.t.Helper()
	switch {
	case n < 25:
		p := x.drawn()
		k, err := s.Append([]byte(p))
		want, why := m.append(p)
		x.answers("Append", errorSpelt(err), errorSpelt(why))
		if k != want {
			x.t.Fatalf("%s: Append answers %d, want %d", x.what, k, want)
		}
	case n < 50:
		x.answers("Sync", errorSpelt(s.Sync()), errorSpelt(m.sync()))
	case n < 53:
		if !m.looked {
			m.drop()
		}
		s.Drop()
	case n < 62:
		size := min(m.synced, max(m.synced-x.r.Intn(12), x.base))
		if x.r.Intn(3) == 0 {
			size = min(m.synced, x.base)
		}
		if n := x.r.Intn(60); n == 0 || n < 10 && x.base == 0 {
			size = x.r.Intn(m.synced+3) - 1
		}
		if m.locked() == api.OK && size >= 0 && size <= m.synced {
			x.acks = x.acks[:min(size, len(x.acks))]
		}
		x.answers("Cut", errorSpelt(s.Cut(size)), errorSpelt(m.cut(size)))
	case n < 66:
		k := len(m.records) + 1 - x.r.Intn(len(m.records)+3)
		p, err := s.Get(k)
		got := errorSpelt(err)
		if err == nil {
			got = fmt.Sprintf("%.40q", p)
		}
		if want := m.get(k); got != want {
			x.t.Fatalf("%s: Get(%d) answers %s, want %s", x.what, k, got, want)
		}
	default:
		from := x.r.Intn(len(m.records)+3) - 1
		if got, want := spellRows(s, from), m.rows(from); got != want {
			x.t.Fatalf("%s: Rows(%d) tells %s, want %s", x.what, from, got, want)
		}
	}
}

// takes keeps a store, and the last two others.
func (x *script) takes(s *store.Store, m *plain) {
	if s == nil != (m == nil) {
		x.t.Fatalf("%s: a store %v, want %v", x.what, s != nil, m != nil)
	}
	if s == nil {
		return
	}
	x.stores, x.plains = append(x.stores, s), append(x.plains, m)
	if len(x.stores) > 3 {
		x.stores, x.plains = x.stores[1:], x.plains[1:]
	}
}

func (x *script) open() {
	x.t.Helper()
	s, err := store.Open(x.d)
	m, why := plainOpen(x.e)
	x.answers("Open", errorSpelt(err), errorSpelt(why))
	x.takes(s, m)
}

func (x *script) look() {
	x.t.Helper()
	s, err := store.Look(x.d)
	m, why := plainLook(x.e, "Look")
	x.answers("Look", errorSpelt(err), errorSpelt(why))
	x.takes(s, m)
}

func (x *script) plan() {
	var l []api.Fault
	for range 1 + x.r.Intn(3) {
		l = append(l, api.Fault{Step: x.d.Acts() + x.r.Intn(6), Kind: api.Ahead + x.r.Intn(6), Part: x.r.Intn(40)})
	}
	x.d.Plan(l...)
	x.e.Plan(l...)
}

// note stirs a file that is not the store's.
func (x *script) note() {
	n := x.r.Intn(4)
	for _, d := range []*disk.Disk{x.d, x.e} {
		switch n {
		case 0:
			d.Create("note")
		case 1:
			d.Append("note", []byte("n"))
		case 2:
			d.Remove("note")
		case 3:
			d.SyncNames()
		}
	}
}

func (x *script) restart() {
	c := x.d.Loose()
	if x.r.Intn(4) > 0 {
		for i, n := range c.Bytes {
			c.Bytes[i] = x.r.Intn(n + 1)
		}
		c.Names = x.r.Intn(c.Names + 1)
	}
	x.d.Restart(c)
	x.e.Restart(c)
}

// Any script of calls, refusals, losses of power and openings anew answers as the chapter's words do, leaves the disk so, and keeps what Synced has told.
func TestP5_1To11TheModel(t *testing.T) {
	t.Parallel()
	met := map[string]int{}
	runs := func(scripts, steps, room int, records ...string) {
		for seed := range scripts {
			x := &script{t: t, r: rand.New(rand.NewSource(int64(seed))), met: met, base: len(records)}
			x.d, x.e = image(t, segments(records...)), image(t, segments(records...))
			for step := range steps {
				x.what = fmt.Sprint("room ", room, ", script ", seed, ", step ", step)
				x.step()
			}
		}
	}
	runs(2500, 80, 0)
	for _, room := range []int{0, 13, 17, 30} {
		runs(20, 80, room, upTo(room)...)
	}
	for _, call := range []string{
		`OK`, `store "Sync" ` + api.ErrDown.Error(), `store "Sync" ` + api.ErrStale.Error(), `store "Sync" ` + api.ErrArg.Error(),
		`Create "seg-00000" ` + api.ErrIO.Error(), `Append "seg-00000" ` + api.ErrIO.Error(), `Append "seg-00000" ` + api.ErrSpace.Error(), `Append "seg-00000" ` + api.ErrDown.Error(), `Sync "seg-00000" ` + api.ErrIO.Error(),
		`SyncNames "" ` + api.ErrIO.Error(), `Remove "seg-00000" ` + api.ErrIO.Error(), `Cut "seg-00000" ` + api.ErrIO.Error(), `Create "seg-00001" ` + api.ErrIO.Error(),
	} {
		if met["Sync "+call] < 2 {
			t.Errorf("Sync answered %s %d times: too few to show anything", call, met["Sync "+call])
		}
	}
}
