package audit

import (
	"tappet/api"
)

// stage is what became of a program.
type stage int

const (
	unknown stage = iota
	live
	retired
)

// grace looks for what is done by a program that isn't live.
type grace struct {
	stages map[int]stage // by program
	in     map[int]int   // by task that is in a run: its program
	tasks  map[int]int   // by program: how many tasks are in a run of it, so that a retire needn't go over all
}

func newGrace() *grace {
	return &grace{stages: map[int]stage{}, in: map[int]int{}, tasks: map[int]int{}}
}

func (g *grace) wrong(e api.Entry) bool {
	switch e.What {
	case api.MarkLoaded:
		return g.wrongLoaded(e)
	case api.MarkRetired:
		return g.wrongRetired(e)
	case api.MarkPublish:
		return e.Version != 0 && !g.live(e)
	case api.MarkEnter:
		g.enter(e)
		return !g.live(e)
	case api.MarkRan, api.MarkNote, api.MarkAsk, api.MarkBack:
		return !g.live(e)
	case api.MarkDone:
		g.leave(e)
		return e.Version != 0 && !g.live(e)
	}
	return false
}

func (g *grace) wrongLoaded(e api.Entry) bool {
	was := g.stages[e.Prog]
	g.stages[e.Prog] = live
	return was != unknown
}

func (g *grace) wrongRetired(e api.Entry) bool {
	was := g.stages[e.Prog]
	g.stages[e.Prog] = retired
	return was != live || g.tasks[e.Prog] > 0
}

// live: is the entry's program loaded, and not retired?
func (g *grace) live(e api.Entry) bool {
	return g.stages[e.Prog] == live
}

// enter has the entry's task in a run of its program, and in no other: a task is in one run at a time, the one that it entered last.
func (g *grace) enter(e api.Entry) {
	g.leave(e)
	g.in[e.Task] = e.Prog
	g.tasks[e.Prog]++
}

// leave has the entry's task in no run.
func (g *grace) leave(e api.Entry) {
	if prog, in := g.in[e.Task]; in {
		delete(g.in, e.Task)
		g.tasks[prog]--
	}
}
