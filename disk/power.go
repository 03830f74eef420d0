package disk

import "docket/api"

// Plan says which acts are to fail, and how.
func (d *Disk) Plan(faults ...api.Fault) {
	d.plan = map[int]api.Fault{}
	for _, f := range faults {
		_, planned := d.plan[f.Step]
		if !planned && api.Ahead <= f.Kind && f.Kind <= api.Late {
			d.plan[f.Step] = f
		}
	}
}

// Power tells whether there is power.
func (d *Disk) Power() bool { return d.power }

// Epoch tells how many restarts there were.
func (d *Disk) Epoch() int { return d.epoch }

// Claim makes the number of claims of a word one more.
func (d *Disk) Claim(who string) int {
	d.claims[who]++
	return d.claims[who]
}

// Claims tells the number of claims of a word.
func (d *Disk) Claims(who string) int { return d.claims[who] }

// Loose tells what is not safe.
func (d *Disk) Loose() api.Cut {
	files := d.names.reach()
	c := api.Cut{Bytes: make([]int, len(files)), Names: len(d.names.loose)}
	for i, f := range files {
		c.Bytes[i] = f.units()
	}
	return c
}

// Restart ends the power and begins it again; c says how much of what is not safe is kept.
func (d *Disk) Restart(c api.Cut) {
	// The files first: which ones are within reach hangs on the changes that are not safe.
	for i, f := range d.names.reach() {
		n := 0
		if i < len(c.Bytes) {
			n = c.Bytes[i]
		}
		f.keep(n)
	}
	d.names.keep(c.Names)
	d.used = d.names.total()
	d.plan = nil
	d.power = true
	d.epoch++
}
