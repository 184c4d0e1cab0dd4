package host

import (
	"tappet/api"
	"tappet/owner"
)

// server is an owner as a task.
type server struct {
	seat
	*owner.Owner
}

func (o *server) able() bool {
	return len(o.Waiting()) > 0 || o.host.workersOver()
}

func (o *server) act() {
	r, ok := o.Step()
	if !ok {
		o.End()
		o.stop()
		return
	}
	from := o.host.asker(r.To)
	if !r.Walk {
		cmd, event := from.cause()
		o.tell(api.Entry{What: api.MarkApply, From: r.To, Cmd: cmd, Tag: r.Tag, Event: event, Item: r.Item, Res: r.Res})
	}
	from.hear(r)
}
