package dht

import (
	"slices"

	"towpath/api"
)

// record says which machine a flow was given.
type record struct {
	flow  api.Flow
	dip   api.Addr
	epoch int
	sure  bool

	// wait is there while the other owner is asked.
	wait *wait
}

// wait is who waits for the other owner's word.
type wait struct {
	task int
	age  int
	who  []asker
}

// asker is a mux, and its own task.
type asker struct {
	mux  int
	task int
}

// find is a flow's record, or nil.
func (d *Dht) find(f api.Flow) *record {
	if at := d.place(f); at >= 0 {
		return d.records[at]
	}
	return nil
}

// place is where a flow's record stands, or below 0.
func (d *Dht) place(f api.Flow) int {
	return slices.IndexFunc(d.records, func(r *record) bool { return r.flow == f })
}

// put makes a flow's record the last one, and says what it is to be; nil, if there is no room for it.
func (d *Dht) put(f api.Flow, dip api.Addr, epoch int, sure bool) *record {
	r := &record{flow: f}
	if at := d.place(f); at >= 0 {
		r = d.takeOut(at)
	} else if !d.makeRoom() {
		return nil
	}
	r.dip, r.epoch, r.sure = dip, epoch, sure
	d.records = append(d.records, r)
	return r
}

// makeRoom puts a record out, if as many are there as may be; false, if none may go.
func (d *Dht) makeRoom() bool {
	if len(d.records) < d.room {
		return true
	}
	at := slices.IndexFunc(d.records, func(r *record) bool { return r.sure && r.wait == nil })
	if at < 0 {
		return false
	}
	d.note(api.SawEvicted, d.takeOut(at))
	return true
}

func (d *Dht) takeOut(at int) *record {
	r := d.records[at]
	d.records = slices.Delete(d.records, at, at+1)
	return r
}
