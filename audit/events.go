package audit

import (
	"tappet/api"
)

// events looks for what is accepted without room, or taken out of its order.
type events struct {
	room     int
	accepted int
	waiting  map[int][]int // by hook: the events that wait there, the one that waits longest first
}

func newEvents(room int) *events {
	return &events{room: room, waiting: map[int][]int{}}
}

func (v *events) wrong(e api.Entry) bool {
	switch e.What {
	case api.MarkAccept:
		return v.wrongAccept(e)
	case api.MarkTake, api.MarkDrop:
		return v.wrongTake(e)
	}
	return false
}

func (v *events) wrongAccept(e api.Entry) bool {
	full := len(v.waiting[e.Hook]) >= v.room
	v.accepted++
	v.waiting[e.Hook] = append(v.waiting[e.Hook], e.Event)
	return full || e.Event != v.accepted
}

func (v *events) wrongTake(e api.Entry) bool {
	line := v.waiting[e.Hook]
	if len(line) == 0 || e.Event != line[0] {
		return true
	}
	v.waiting[e.Hook] = line[1:]
	return false
}
