package disk_test

import (
	"fmt"
	"maps"
	"math/rand"
	"slices"
	"testing"

	"docket/api"
	"docket/disk"
)

// model is the chapter's disk, written down in the plainest way: nothing is kept but what is safe and the rows of units and changes, and all else is worked out of these each time.
type model struct {
	space, acts, epoch int
	dark               bool
	plan               []api.Fault
	things             []thing
	safe               map[string]int // places in things
	changes            []func(names map[string]int)
	makes              []int // of each change: the thing it made, or -1
}

type thing struct {
	safe  string
	units []func(b string) string
}

// after is a thing's bytes with its first n units done.
func (f thing) after(n int) string {
	b := f.safe
	for _, u := range f.units[:max(0, min(n, len(f.units)))] {
		b = u(b)
	}
	return b
}

func (f thing) now() string { return f.after(len(f.units)) }

func (m *model) names(n int) map[string]int {
	names := maps.Clone(m.safe)
	for _, c := range m.changes[:max(0, min(n, len(m.changes)))] {
		c(names)
	}
	return names
}

func (m *model) now() map[string]int { return m.names(len(m.changes)) }

func (m *model) used() int {
	n := 0
	for _, i := range m.now() {
		n += len(m.things[i].now())
	}
	return n
}

func (m *model) reach() []int {
	var l []int
	for i := range m.things {
		if slices.Contains(m.makes, i) || slices.Contains(slices.Collect(maps.Values(m.safe)), i) {
			l = append(l, i)
		}
	}
	return l
}

func (m *model) change(made int, c func(names map[string]int)) {
	m.changes = append(m.changes, c)
	m.makes = append(m.makes, made)
}

func (m *model) lay(i int, p string) {
	for _, c := range []byte(p) {
		m.things[i].units = append(m.things[i].units, func(b string) string { return b + string([]byte{c}) })
	}
}

// asked is one act as it is asked: p, size and to where they are needed.
type asked struct {
	call, name, to, p string
	size              int
}

// refusal is what the table says ahead of an act.
func (m *model) refusal(a asked) api.Errno {
	wrong := func(s string) bool { return s == "" || s[0] == '.' || s == "A" }
	i, found := m.now()[a.name]
	switch {
	case m.dark:
		return api.ErrDown
	case a.call == "SyncNames":
		return api.OK
	case wrong(a.name), a.call == "Rename" && wrong(a.to):
		return api.ErrName
	case a.call == "Create":
		if found {
			return api.ErrExists
		}
		return api.OK
	case !found:
		return api.ErrMissing
	case a.call == "Cut" && (a.size < 0 || a.size > len(m.things[i].now())):
		return api.ErrArg
	}
	return api.OK
}

// does does the act, of an Append with p.
func (m *model) does(a asked, p string) {
	i := m.now()[a.name]
	switch a.call {
	case "Create":
		made := len(m.things)
		m.things = append(m.things, thing{})
		m.change(made, func(names map[string]int) { names[a.name] = made })
	case "Append":
		m.lay(i, p)
	case "Cut":
		m.things[i].units = append(m.things[i].units, func(b string) string { return b[:a.size] })
	case "Sync":
		m.things[i] = thing{safe: m.things[i].now()}
	case "Rename":
		m.change(-1, func(names map[string]int) {
			j := names[a.name]
			delete(names, a.name)
			names[a.to] = j
		})
	case "Remove":
		m.change(-1, func(names map[string]int) { delete(names, a.name) })
	case "SyncNames":
		m.safe, m.changes, m.makes = m.now(), nil, nil
	}
}

func (m *model) fault() api.Fault {
	for _, f := range m.plan {
		if f.Step == m.acts && f.Kind >= api.Ahead && f.Kind <= api.Late {
			return f
		}
	}
	return api.Fault{}
}

func (m *model) act(a asked) api.Errno {
	if why := m.refusal(a); why != api.OK {
		return why
	}
	f, p, why := m.fault(), a.p, api.OK
	m.acts++
	if room := max(0, m.space-m.used()); a.call == "Append" && len(p) > room {
		p, why = p[:room], api.ErrSpace
	}
	part := p[:max(0, min(f.Part, len(p)))]
	switch f.Kind {
	case 0:
		m.does(a, p)
		return why
	case api.Ahead:
		return api.ErrIO
	case api.Behind, api.Late:
		m.does(a, p)
	default:
		if a.call == "Append" {
			m.does(a, part)
		}
	}
	m.dark = f.Kind == api.Lose || f.Kind == api.Late
	if m.dark {
		return api.ErrDown
	}
	if f.Kind == api.Room {
		return api.ErrSpace
	}
	return api.ErrIO
}

func (m *model) restart(c api.Cut) {
	reach := m.reach()
	for i := range m.things {
		n, place := 0, slices.Index(reach, i)
		if place >= 0 && place < len(c.Bytes) {
			n = c.Bytes[place]
		}
		m.things[i] = thing{safe: m.things[i].after(n)}
	}
	m.safe, m.changes, m.makes, m.plan = m.names(c.Names), nil, nil, nil
	m.dark, m.epoch = false, m.epoch+1
}

// tells spells all that is to be told of a disk.
func (m *model) tells() string {
	kept, stand := map[string][]byte{}, map[string][]byte{}
	for name, i := range m.safe {
		kept[name] = []byte(m.things[i].safe)
	}
	if !m.dark {
		for name, i := range m.now() {
			stand[name] = []byte(m.things[i].now())
		}
	}
	loose := api.Cut{Names: len(m.changes)}
	for _, i := range m.reach() {
		loose.Bytes = append(loose.Bytes, len(m.things[i].units))
	}
	return fmt.Sprint(files(stand), "; ", files(kept), "; ", m.used(), !m.dark, m.epoch, loose, 0, 0, " ", m.acts)
}

// ask does the act on a disk.
func (a asked) ask(d *disk.Disk) error {
	switch a.call {
	case "Create":
		return d.Create(a.name)
	case "Append":
		return d.Append(a.name, []byte(a.p))
	case "Cut":
		return d.Cut(a.name, a.size)
	case "Sync":
		return d.Sync(a.name)
	case "Rename":
		return d.Rename(a.name, a.to)
	case "Remove":
		return d.Remove(a.name)
	}
	return d.SyncNames()
}

func drawnName(r *rand.Rand) string {
	if r.Intn(20) == 0 {
		return []string{"", ".a", "A"}[r.Intn(3)]
	}
	return []string{"a", "b", "c", "-x.0"}[r.Intn(4)]
}

func drawnAct(r *rand.Rand) asked {
	calls := []string{"Create", "Create", "Append", "Append", "Append", "Cut", "Cut", "Sync", "Rename", "Remove", "SyncNames"}
	a := asked{call: calls[r.Intn(len(calls))], name: drawnName(r), to: drawnName(r), size: r.Intn(9) - 1}
	if a.call == "SyncNames" {
		a.name = ""
	}
	for range r.Intn(7) {
		a.p += string([]byte{byte('a' + r.Intn(26))})
	}
	return a
}

func drawnPlan(r *rand.Rand, acts int) []api.Fault {
	var l []api.Fault
	for range r.Intn(4) {
		l = append(l, api.Fault{Step: acts + r.Intn(9) - 1, Kind: r.Intn(9) - 1, Part: r.Intn(8) - 1})
	}
	return l
}

func drawnCut(r *rand.Rand) api.Cut {
	c := api.Cut{Names: r.Intn(8) - 1}
	for range r.Intn(6) {
		c.Bytes = append(c.Bytes, r.Intn(12)-1)
	}
	return c
}

// Any script answers as the chapter's words do, and so does what can be told behind each of its steps.
func TestP3_2To10TheModel(t *testing.T) {
	met := map[string]int{}
	for seed := range 2000 {
		r := rand.New(rand.NewSource(int64(seed)))
		d, m := image(t, 15, "b=123456", "a="), &model{space: 15, things: []thing{{}, {safe: "123456"}}, safe: map[string]int{"a": 0, "b": 1}}
		for step := range 60 {
			what := fmt.Sprint("script ", seed, ", step ", step)
			switch n := r.Intn(20); {
			case n == 0 || m.dark && n < 10:
				c := drawnCut(r)
				d.Restart(c)
				m.restart(c)
			case n < 3:
				m.plan = drawnPlan(r, m.acts)
				d.Plan(m.plan...)
			default:
				a := drawnAct(r)
				why := m.act(a)
				met[a.call+" "+why.Error()]++
				refused(t, fmt.Sprint(what, ": ", a), a.ask(d), a.call, a.name, why)
			}
			if got := fmt.Sprint(told(t, d), " ", d.Acts()); got != m.tells() {
				t.Fatalf("%s: %s, want %s", what, got, m.tells())
			}
		}
	}
	for _, call := range []string{"Create", "Append", "Cut", "Sync", "Rename", "Remove", "SyncNames"} {
		for _, why := range []api.Errno{api.OK, api.ErrDown, api.ErrIO, api.ErrSpace} {
			if met[call+" "+why.Error()] < 20 {
				t.Errorf("%s answered %q %d times: too few to show anything", call, why, met[call+" "+why.Error()])
			}
		}
	}
}
