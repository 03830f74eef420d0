package disk

import "docket/api"

// Create makes a file.
func (d *Disk) Create(name string) error {
	return d.act("Create", name, d.createRefusal(name), func() {
		d.names.do(change{made: d.newFile(), to: name})
	})
}

func (d *Disk) createRefusal(name string) api.Errno {
	if why := d.ready(name); why != api.OK {
		return why
	}
	if d.names.now[name] != nil {
		return api.ErrExists
	}
	if len(d.names.now) >= api.MaxFiles {
		return api.ErrSpace
	}
	return api.OK
}

// Append lays bytes behind a file's.
func (d *Disk) Append(name string, p []byte) error {
	f, why := d.find(name)
	if why == api.OK && len(p) > api.MaxFile-len(f.now) {
		why = api.ErrSpace
	}
	if why != api.OK {
		return NewFault("Append", name, why)
	}
	fits := p[:min(len(p), d.room())]
	if len(fits) < len(p) {
		why = api.ErrSpace
	}
	fault := d.plan[d.begin()]
	done := fits[:portion(fault, len(fits))]
	f.lay(done)
	d.used += len(done)
	return refusal("Append", name, d.end(fault, why))
}

// Cut takes bytes off a file's end.
func (d *Disk) Cut(name string, size int) error {
	f, why := d.find(name)
	if why == api.OK && (size < 0 || size > len(f.now)) {
		why = api.ErrArg
	}
	return d.act("Cut", name, why, func() {
		d.used -= len(f.now) - size
		f.cut(size)
	})
}

// Sync makes a file's bytes safe.
func (d *Disk) Sync(name string) error {
	f, why := d.find(name)
	return d.act("Sync", name, why, func() { f.sync() })
}

// Rename lets another name find a file.
func (d *Disk) Rename(from, to string) error {
	why := d.ready(from, to)
	if why == api.OK {
		_, why = d.find(from)
	}
	return d.act("Rename", from, why, func() {
		if from != to {
			d.used -= d.names.length(to)
		}
		d.names.do(change{from: from, to: to})
	})
}

// Remove lets a name find no file.
func (d *Disk) Remove(name string) error {
	_, why := d.find(name)
	return d.act("Remove", name, why, func() {
		d.used -= d.names.length(name)
		d.names.do(change{from: name})
	})
}

// SyncNames makes the names safe.
func (d *Disk) SyncNames() error {
	return d.act("SyncNames", "", d.ready(), func() { d.names.sync() })
}

// ready tells what every act and every look is refused with first.
func (d *Disk) ready(names ...string) api.Errno {
	if !d.power {
		return api.ErrDown
	}
	for _, name := range names {
		if !isName(name) {
			return api.ErrName
		}
	}
	return api.OK
}

// find tells the file that a name finds now.
func (d *Disk) find(name string) (*file, api.Errno) {
	if why := d.ready(name); why != api.OK {
		return nil, why
	}
	f := d.names.now[name]
	if f == nil {
		return nil, api.ErrMissing
	}
	return f, api.OK
}

func (d *Disk) room() int { return max(0, d.space-d.used) }

// act refuses an act, or begins it and does all of it or nothing, as it is planned.
func (d *Disk) act(call, name string, why api.Errno, do func()) error {
	if why != api.OK {
		return NewFault(call, name, why)
	}
	fault := d.plan[d.begin()]
	if whole(fault) {
		do()
	}
	return refusal(call, name, d.end(fault, api.OK))
}

// whole tells whether an act with this fault is done as one with none.
func whole(f api.Fault) bool {
	return f.Kind == 0 || f.Kind == api.Behind || f.Kind == api.Late
}

// portion tells how many of the n bytes that have room an Append with this fault lays.
func portion(f api.Fault, n int) int {
	if whole(f) {
		return n
	}
	if f.Kind == api.Ahead {
		return 0
	}
	return max(0, min(f.Part, n))
}

// end ends an act: it tells its answer, which is why if no fault says otherwise.
func (d *Disk) end(f api.Fault, why api.Errno) api.Errno {
	switch f.Kind {
	case api.Ahead, api.Behind, api.Tear:
		return api.ErrIO
	case api.Room:
		return api.ErrSpace
	case api.Lose, api.Late:
		d.power = false
		return api.ErrDown
	}
	return why
}
