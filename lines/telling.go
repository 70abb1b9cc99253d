package lines

import (
	"slices"

	"beadle/api"
	"beadle/bounds"
	"beadle/engine"
	"beadle/history"
)

// mostRounds is how many a line does at most.
const mostRounds = 1000

// engine is the desk's engine: if there is none, one is made, which is there from then on whatever the line answers.
func (d *Desk) engine() *engine.Engine {
	if d.made == nil {
		made, e := engine.New(d.setup)
		must(e)
		d.made = made
	}
	return d.made
}

func run(r *row) act {
	script := r.wholes()
	return func(d *Desk) string { return d.step(script) }
}

func rounds(r *row) act {
	times := min(r.whole(), mostRounds)
	return func(d *Desk) string {
		// Ahead of the engine the Config may ask for any number of threads.
		d.engine()
		var script []int
		for range times {
			for thread := range d.setup.Config.Threads {
				script = append(script, thread)
			}
		}
		return d.step(script)
	}
}

// step steps by a script, and tells how many steps did something.
func (d *Desk) step(script []int) string {
	did, e := d.engine().Run(script)
	must(e)
	return toldWholes(did)
}

func state(d *Desk) string { return toldNumbers(d.engine().State()) }

func deeds(d *Desk) string { return behind(d.engine().Deeds(), toldDeed) }

func out(r *row) act {
	thread, no := r.whole(), r.whole()
	return func(d *Desk) string {
		all := d.engine().Deeds()
		place := slices.IndexFunc(all, func(deed api.Deed) bool { return deed.Thread == thread && deed.No == no })
		if place < 0 {
			giveUp(api.ErrThread)
		}
		return toldNumbers(all[place].Out)
	}
}

func order(d *Desk) string {
	all := d.engine().Deeds()
	places, e := history.Order(all)
	must(e)
	return behind(places, func(place int) string { return toldCall(all[place]) })
}

func judge(d *Desk) string {
	all := d.engine().Deeds()
	unlike, e := history.Explain(d.setup, all)
	must(e)
	untimely, e := history.Timely(all)
	must(e)
	late, e := bounds.Late(d.setup.Config, all)
	must(e)
	return toldWholes(unlike, untimely, late)
}

// again needs no engine to be there.
func again(d *Desk) string {
	d.made = nil
	return ""
}
