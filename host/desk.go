package host

import (
	"slices"

	"tappet/api"
)

// desk is the registry as a task: the line of commands that were sent to it, the calls that it holds back, in the order in which they came, and the client whose close waits for the end.
type desk struct {
	seat
	line   []order
	held   []order
	closer *client
}

// order is a client's command, and, if it is a retire that is held back, the grace that it waits for.
type order struct {
	client *client
	cmd    api.Cmd
	grace  int
}

func (d *desk) able() bool {
	return d.due() >= 0 || len(d.line) > 0 || d.last()
}

func (d *desk) act() {
	if at := d.due(); at >= 0 {
		d.finish(at)
		return
	}
	if len(d.line) > 0 {
		first := d.line[0]
		d.line = slices.Delete(d.line, 0, 1)
		d.do(first)
		return
	}
	d.stop()
	d.closer.learn(api.Answer{})
}

// send puts a command behind all others.
func (d *desk) send(o order) {
	d.line = append(d.line, o)
}

// due is the place of the first call held back that can be finished, -1 if none can.
func (d *desk) due() int {
	return slices.IndexFunc(d.held, func(o order) bool {
		if o.cmd.Kind == api.CmdRetire {
			return d.host.Safe(o.grace)
		}
		return !d.host.queued() && d.host.idle()
	})
}

// last tells whether all others that can end have ended, and nobody but the close waits.
func (d *desk) last() bool {
	return d.host.workersOver() && d.host.ownersOver() && len(d.held) == 0
}

// finish answers a call that was held back.
func (d *desk) finish(at int) {
	o := d.held[at]
	d.held = slices.Delete(d.held, at, at+1)
	if o.cmd.Kind == api.CmdRetire {
		// Epochs are safe in the order in which they began, so the first that is settled is this one.
		d.host.Settle(1)
		d.tell(api.Entry{What: api.MarkRetired, Prog: o.cmd.Prog})
	}
	o.client.learn(api.Answer{})
}

// do does a command, and answers it, if it isn't one that waits.
func (d *desk) do(o order) {
	if d.host.closed {
		o.client.learn(api.Answer{E: api.ErrClosed})
		return
	}
	switch o.cmd.Kind {
	case api.CmdLoad:
		o.client.learn(d.load(o.cmd.Module))
	case api.CmdAttach:
		o.client.learn(d.publish(d.host.Attach, o.cmd))
	case api.CmdSwap:
		o.client.learn(d.publish(d.host.Swap, o.cmd))
	case api.CmdDetach:
		o.client.learn(d.detach(o.cmd.Hook))
	case api.CmdRetire:
		d.retire(o)
	case api.CmdDrain:
		d.held = append(d.held, o)
	case api.CmdClose:
		d.close(o.client)
	}
}

// load lets a program in.
func (d *desk) load(b []byte) api.Answer {
	prog, e := d.host.Load(b)
	if e == api.OK {
		d.tell(api.Entry{What: api.MarkLoaded, Prog: prog})
	}
	return api.Answer{E: e, N: prog}
}

// publish puts a program to a hook, in the registry's way to do so that is handed in.
func (d *desk) publish(put func(hook, prog int) (int, api.Errno), cmd api.Cmd) api.Answer {
	version, e := put(cmd.Hook, cmd.Prog)
	if e == api.OK {
		d.tell(api.Entry{What: api.MarkPublish, Hook: cmd.Hook, Prog: cmd.Prog, Version: version})
	}
	return api.Answer{E: e, N: version}
}

// detach takes the program from a hook.
func (d *desk) detach(hook int) api.Answer {
	e := d.host.Detach(hook)
	if e == api.OK {
		d.tell(api.Entry{What: api.MarkPublish, Hook: hook})
	}
	return api.Answer{E: e}
}

// retire holds the call back until nobody runs the program any more, or refuses it.
func (d *desk) retire(o order) {
	grace, e := d.host.Retire(o.cmd.Prog)
	if e != api.OK {
		o.client.learn(api.Answer{E: e})
		return
	}
	o.grace = grace
	d.held = append(d.held, o)
}

// close closes the host, and drops the events that nobody has taken.
func (d *desk) close(c *client) {
	d.host.closed = true
	d.closer = c
	for hook, r := range d.host.rings {
		for _, q := range r.Shut() {
			d.tell(api.Entry{What: api.MarkDrop, Hook: hook, Event: q.N})
		}
	}
	d.tell(api.Entry{What: api.MarkClosed})
}
