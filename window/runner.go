package window

import "clockwall/api"

// runner of a window: keeps the domain, and has the cache, the actions and the time.
type runner struct {
	keeper
	cache   api.Cache
	actions []api.Action
	now, to int
}

func (r *runner) run() {
	for r.now < r.to {
		r.release(r.now)
		r.step()
	}
	r.release(r.to)
}

// step does one action, or lets the time go by in which none can be done.
func (r *runner) step() {
	job := r.pick()
	if job < 0 {
		r.now = r.due(r.to)
		return
	}
	if r.Next >= len(r.actions) {
		r.now = r.to
		return
	}
	a := r.actions[r.Next]
	if worst(a) > r.to-r.now {
		r.now = r.to
		return
	}
	r.start(job)
	cost := r.spend(job, a)
	r.act(a, cost)
	r.Next++
	r.end(job, a)
}

func (r *runner) tell(kind, a, b int) {
	r.Events = append(r.Events, api.Event{At: r.now, Kind: kind, A: a, B: b})
}

// start is told at the time ahead of the action, all else at the time behind it.
func (r *runner) start(job int) {
	j := &r.Jobs[job]
	if !j.Ran {
		r.tell(api.EventStart, j.Task, j.Number)
		j.Ran = true
	}
}

// spend what an action costs, also if it is refused then.
func (r *runner) spend(job int, a api.Action) int {
	after, cost, _ := Cost(r.cache, a)
	r.cache = after
	r.now += cost
	r.Jobs[job].Used += cost
	return cost
}

func (r *runner) act(a api.Action, cost int) {
	if !r.may(a) {
		r.tell(api.EventRefused, r.Next, 0)
		return
	}
	switch a.Kind {
	case api.ActCompute, api.ActRead, api.ActWrite:
		r.tell(api.EventWorked, cost, 0)
	case api.ActSend:
		r.send(a.N, a.Value)
		r.tell(api.EventSent, a.N, 0)
	case api.ActReceive:
		r.tell(api.EventGot, a.N, r.receive(a.N))
	case api.ActClock:
		r.tell(api.EventClock, r.now-r.now%r.config.Quantum, 0)
	case api.ActTake:
		r.tell(api.EventTaken, a.N, r.take(a.N))
	}
}

// end lets the job go, if it waits, or has spent its budget.
func (r *runner) end(job int, a api.Action) {
	j := r.Jobs[job]
	switch {
	case a.Kind == api.ActWait:
		r.tell(api.EventDone, j.Task, j.Number)
	case j.Used >= r.budget(j):
		r.tell(api.EventKill, j.Task, j.Number)
	default:
		return
	}
	r.drop(job)
}
