package host

import (
	"tappet/api"
	"tappet/place"
)

// client is a script, how far it has come, and what its commands were answered. While it waits, the command that it issued last is under way: missing is how much of what it waits for hasn't come, replies are those of owners by their tags, told is the registry's answer.
type client struct {
	seat
	script  []api.Cmd
	issued  int
	waits   bool
	missing int
	replies []api.Reply
	told    api.Answer
	answers []api.Answer
}

func (c *client) able() bool {
	if c.waits {
		return c.missing == 0
	}
	return c.issued < len(c.script)
}

func (c *client) act() {
	if c.waits {
		c.finish(c.whole())
		return
	}
	cmd := c.script[c.issued]
	c.issued++
	c.tell(api.Entry{What: api.MarkCall, Cmd: c.latest()})
	a := c.issue(cmd)
	if !c.waits {
		c.finish(a)
	}
}

func (c *client) cause() (cmd, event int) {
	return c.latest(), 0
}

func (c *client) hear(r api.Reply) {
	c.replies[r.Tag] = r
	c.missing--
}

// learn is that the registry's answer comes.
func (c *client) learn(a api.Answer) {
	c.told = a
	c.missing--
}

// latest is the number of the command that was issued last.
func (c *client) latest() int {
	return c.issued - 1
}

// issue sends a command to whom it is for, and the client waits; or it doesn't, and this is the answer.
func (c *client) issue(cmd api.Cmd) api.Answer {
	if c.host.closed {
		return api.Answer{E: api.ErrClosed}
	}
	switch cmd.Kind {
	case api.CmdItem:
		return c.ask(cmd.Item)
	case api.CmdBatch:
		return c.ask(cmd.Items...)
	case api.CmdWalk:
		return c.walk(cmd.Map)
	case api.CmdFire:
		return c.fire(cmd.Hook, cmd.Event)
	case api.CmdLoad, api.CmdAttach, api.CmdSwap, api.CmdDetach, api.CmdRetire, api.CmdDrain, api.CmdClose:
		c.host.desk.send(order{client: c, cmd: cmd})
		c.await(1, nil)
		return api.Answer{}
	}
	return api.Answer{E: api.ErrArg}
}

// ask sends a request for each item, or none.
func (c *client) ask(items ...api.Item) api.Answer {
	if len(items) < 1 || len(items) > api.MaxBatch || !c.host.takes(items...) {
		return api.Answer{E: api.ErrArg}
	}
	for tag, item := range items {
		c.host.request(api.Request{From: c.task, Tag: tag, Item: item})
	}
	c.await(len(items), make([]api.Reply, len(items)))
	return api.Answer{}
}

// walk asks each owner for all pairs of a map.
func (c *client) walk(m int) api.Answer {
	if !c.host.has(m) {
		return api.Answer{E: api.ErrArg}
	}
	for shard, o := range c.host.servers {
		o.Send(api.Request{From: c.task, Tag: shard, Walk: true, Item: api.Item{Map: m}})
	}
	c.await(len(c.host.servers), make([]api.Reply, len(c.host.servers)))
	return api.Answer{}
}

// fire has a ring accept an event.
func (c *client) fire(hook int, event api.Event) api.Answer {
	if hook < 0 || hook >= len(c.host.rings) {
		return api.Answer{E: api.ErrArg}
	}
	n, e := c.host.rings[hook].Accept(event)
	if e == api.OK {
		c.tell(api.Entry{What: api.MarkAccept, Cmd: c.latest(), Hook: hook, Event: n})
	}
	return api.Answer{E: e, N: n}
}

// await has the client wait for so much, the replies of owners among it to be put here.
func (c *client) await(missing int, replies []api.Reply) {
	c.waits, c.missing, c.replies, c.told = true, missing, replies, api.Answer{}
}

// whole is the answer that all that came makes. Replies stand by their tags, in whichever order they came.
func (c *client) whole() api.Answer {
	a := c.told
	for _, r := range c.replies {
		if r.Walk {
			a.Pairs = append(a.Pairs, r.Pairs...)
		} else {
			a.Res = append(a.Res, r.Res)
		}
	}
	return a
}

// finish is that the command issued last returns.
func (c *client) finish(a api.Answer) {
	c.waits = false
	c.answers = append(c.answers, a)
	c.tell(api.Entry{What: api.MarkReturn, Cmd: c.latest(), E: a.E, Val: uint64(a.N)})
}

// has tells whether there is such a map.
func (h *Host) has(m int) bool {
	return m >= 0 && m < h.maps
}

// takes tells whether none of these items is wrong.
func (h *Host) takes(items ...api.Item) bool {
	for _, i := range items {
		if !h.has(i.Map) || i.Op < 0 || i.Op >= api.MapOps {
			return false
		}
	}
	return true
}

// request sends a request for an operation to the owner of its key's shard.
func (h *Host) request(r api.Request) {
	h.servers[place.Of(r.Item.Key, len(h.servers))].Send(r)
}
