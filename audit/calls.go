package audit

import (
	"tappet/api"
)

// caller is what is known of a task's calls: how many there were, and whether the last one is open.
type caller struct {
	many int
	open bool
}

// ask is an open ask: its MarkAsk, and what it was answered, once it was applied.
type ask struct {
	told    api.Entry
	applied bool
	res     api.Res
}

// calls looks for what stands outside of the call or the ask that it belongs to.
type calls struct {
	callers map[int]caller
	asks    map[int]ask
}

func newCalls() *calls {
	return &calls{callers: map[int]caller{}, asks: map[int]ask{}}
}

func (c *calls) wrong(e api.Entry) bool {
	switch e.What {
	case api.MarkCall:
		return c.wrongCall(e)
	case api.MarkReturn:
		return c.wrongReturn(e)
	case api.MarkAsk:
		return c.wrongAsk(e)
	case api.MarkApply:
		return c.wrongApply(e)
	case api.MarkBack:
		return c.wrongBack(e)
	}
	return false
}

func (c *calls) wrongCall(e api.Entry) bool {
	by := c.callers[e.Task]
	c.callers[e.Task] = caller{many: by.many + 1, open: true}
	return by.open || e.Cmd != by.many
}

func (c *calls) wrongReturn(e api.Entry) bool {
	open := c.open(e.Task, e.Cmd)
	c.callers[e.Task] = caller{many: c.callers[e.Task].many}
	return !open
}

// open: is this call of the task open? Its number is that of those ahead of it.
func (c *calls) open(task, cmd int) bool {
	by := c.callers[task]
	return by.open && cmd == by.many-1
}

func (c *calls) wrongAsk(e api.Entry) bool {
	_, open := c.asks[e.Task]
	c.asks[e.Task] = ask{told: e}
	return open || e.Event == 0
}

// wrongApply: by its Event 0 an operation is a client's, any other is a run's.
func (c *calls) wrongApply(e api.Entry) bool {
	if e.Event == 0 {
		return !c.open(e.From, e.Cmd)
	}
	a, open := c.asks[e.From]
	c.asks[e.From] = ask{told: a.told, applied: true, res: e.Res}
	return !open || a.applied || e.Cmd != 0 || e.Tag != 0 || e.Event != a.told.Event || e.Item != a.told.Item
}

func (c *calls) wrongBack(e api.Entry) bool {
	a, open := c.asks[e.Task]
	delete(c.asks, e.Task)
	return !open || !a.applied || e.Res != a.res || e.Pc != a.told.Pc || !sameRun(e, a.told)
}

// sameRun: do both tell of one event, program and version?
func sameRun(a, b api.Entry) bool {
	return a.Event == b.Event && a.Prog == b.Prog && a.Version == b.Version
}
