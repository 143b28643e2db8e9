package window

import (
	"math"
	"reflect"
	"slices"
	"testing"

	"clockwall/api"
	"clockwall/ready"
)

// solo: the first domain has one task, the other one none; each has a line, and a channel to the other one.
func solo() api.Config {
	return api.Config{
		Sets: 2, Ways: 2, Domains: 2, Pad: 30, Quantum: 10,
		Slots:    []api.Slot{{Domain: 0, Length: 120}, {Domain: 1, Length: 200}},
		Owners:   []int{0, 1},
		Channels: []api.Channel{{From: 0, To: 1, Size: 2}, {From: 1, To: 0, Size: 3}},
		Tasks:    []api.Task{{Domain: 0, Period: 100, Budget: 40, Deadline: 60}},
	}
}

// rivals: two tasks of one domain; the second one is in more of a hurry.
func rivals() api.Config {
	c := solo()
	c.Tasks = []api.Task{{Domain: 0, Period: 400, Budget: 100, Deadline: 300}, {Domain: 0, Period: 50, Budget: 20, Deadline: 40}}
	return c
}

// fresh is ready.New, where it must work.
func fresh(t *testing.T, c api.Config, domain int) api.Domain {
	t.Helper()
	d, e := ready.New(c, domain)
	if e != api.OK {
		t.Fatalf("New(%v, %d): error %d", c, domain, e)
	}
	return d
}

// ran is Run, where it must work.
func ran(t *testing.T, c api.Config, domain int, d api.Domain, k api.Cache, l []api.Action, from, to int) (api.Domain, api.Cache) {
	t.Helper()
	after, then, e := Run(c, domain, d, k, l, from, to)
	if e != api.OK {
		t.Fatalf("Run(%v, %v, %d, %d): error %d", d, l, from, to, e)
	}
	return after, then
}

func ev(at, kind, a, b int) api.Event { return api.Event{At: at, Kind: kind, A: a, B: b} }

func released(at, task, number int) api.Event { return ev(at, api.EventRelease, task, number) }
func started(at, task, number int) api.Event  { return ev(at, api.EventStart, task, number) }
func done(at, task, number int) api.Event     { return ev(at, api.EventDone, task, number) }
func killed(at, task, number int) api.Event   { return ev(at, api.EventKill, task, number) }
func missed(at, task, number int) api.Event   { return ev(at, api.EventMiss, task, number) }
func worked(at, cost int) api.Event           { return ev(at, api.EventWorked, cost, 0) }
func refused(at, action int) api.Event        { return ev(at, api.EventRefused, action, 0) }

// The document's fifth example.
func TestExample(t *testing.T) {
	c := solo()
	c.Tasks[0] = api.Task{Domain: 0, Period: 50, Budget: 40, Deadline: 30}
	d, k := ran(t, c, 0, fresh(t, c, 0), sets(set(way(0))), []api.Action{write(5), wait()}, 0, 40)
	want := []api.Event{released(0, 0, 0), started(0, 0, 0), worked(10, 10), done(13, 0, 0)}
	if !slices.Equal(d.Events, want) {
		t.Errorf("events %v, not %v", d.Events, want)
	}
	if len(d.Jobs) != 0 || d.Next != 2 || !reflect.DeepEqual(k, sets(set(written(5)))) {
		t.Errorf("jobs %v, next %d, cache %v", d.Jobs, d.Next, k)
	}
}

// E2: of a domain at the beginning.
func TestRun(t *testing.T) {
	for _, x := range []struct {
		name     string
		c        api.Config
		from, to int
		l        []api.Action
		events   []api.Event
		jobs     []api.Job
		next     int
	}{
		{"no time", solo(), 0, 0, []api.Action{compute(1)},
			[]api.Event{released(0, 0, 0)}, []api.Job{{}}, 0},
		{"no time, later", solo(), 100, 100, []api.Action{compute(1)},
			[]api.Event{released(0, 0, 0), released(100, 0, 1), missed(60, 0, 0)},
			[]api.Job{{Missed: true}, {Number: 1, Released: 100}}, 0},
		{"no actions: the end comes", solo(), 0, 59, nil,
			[]api.Event{released(0, 0, 0)}, []api.Job{{}}, 0},
		{"missed at the end", solo(), 0, 60, nil,
			[]api.Event{released(0, 0, 0), missed(60, 0, 0)}, []api.Job{{Missed: true}}, 0},
		{"released at the end", solo(), 1, 100, []api.Action{wait(), wait()},
			[]api.Event{released(0, 0, 0), started(1, 0, 0), done(4, 0, 0), released(100, 0, 1)},
			[]api.Job{{Number: 1, Released: 100}}, 1},
		{"idle till the next one comes", solo(), 0, 110, []api.Action{wait(), wait()},
			[]api.Event{released(0, 0, 0), started(0, 0, 0), done(3, 0, 0), released(100, 0, 1), started(100, 0, 1), done(103, 0, 1)},
			nil, 2},
		{"as much as is left", solo(), 0, 14, []api.Action{compute(7), compute(7), compute(1)},
			[]api.Event{released(0, 0, 0), started(0, 0, 0), worked(7, 7), worked(14, 7)},
			[]api.Job{{Used: 14, Ran: true}}, 2},
		{"more than is left", solo(), 0, 14, []api.Action{compute(7), compute(8), compute(1)},
			[]api.Event{released(0, 0, 0), started(0, 0, 0), worked(7, 7)},
			[]api.Job{{Used: 7, Ran: true}}, 1},
		{"more than is left: not even started", solo(), 0, 2, []api.Action{wait()},
			[]api.Event{released(0, 0, 0)}, []api.Job{{}}, 0},
		{"a read may cost more than is left", solo(), 0, 24, []api.Action{read(1), read(1)},
			[]api.Event{released(0, 0, 0), started(0, 0, 0), worked(10, 10)},
			[]api.Job{{Used: 10, Ran: true}}, 1},
		{"a read may cost as much as is left", solo(), 0, 25, []api.Action{read(1), read(1)},
			[]api.Event{released(0, 0, 0), started(0, 0, 0), worked(10, 10), worked(11, 1)},
			[]api.Job{{Used: 11, Ran: true}}, 2},
		{"what is left counts from the beginning on", solo(), 90, 105, []api.Action{compute(15), wait()},
			[]api.Event{released(0, 0, 0), missed(60, 0, 0), started(90, 0, 0), worked(105, 15), released(100, 0, 1)},
			[]api.Job{{Used: 15, Ran: true, Missed: true}, {Number: 1, Released: 100}}, 1},
		{"less than the budget", solo(), 0, 59, []api.Action{compute(39)},
			[]api.Event{released(0, 0, 0), started(0, 0, 0), worked(39, 39)},
			[]api.Job{{Used: 39, Ran: true}}, 1},
		{"as much as the budget", solo(), 0, 59, []api.Action{compute(37), clock()},
			[]api.Event{released(0, 0, 0), started(0, 0, 0), worked(37, 37), ev(40, api.EventClock, 40, 0), killed(40, 0, 0)},
			nil, 2},
		{"more than the budget", solo(), 0, 59, []api.Action{compute(50), compute(1)},
			[]api.Event{released(0, 0, 0), started(0, 0, 0), worked(50, 50), killed(50, 0, 0)},
			nil, 1},
		{"refused, and the budget is spent", solo(), 0, 59, []api.Action{compute(39), take(1)},
			[]api.Event{released(0, 0, 0), started(0, 0, 0), worked(39, 39), refused(42, 1), killed(42, 0, 0)},
			nil, 2},
		{"waiting with the last of the budget", solo(), 0, 59, []api.Action{compute(37), wait()},
			[]api.Event{released(0, 0, 0), started(0, 0, 0), worked(37, 37), done(40, 0, 0)},
			nil, 2},
		{"missed while it works", solo(), 30, 100, []api.Action{compute(29), compute(1), compute(1), wait()},
			[]api.Event{released(0, 0, 0), started(30, 0, 0), worked(59, 29), worked(60, 1), missed(60, 0, 0), worked(61, 1), done(64, 0, 0), released(100, 0, 1)},
			[]api.Job{{Number: 1, Released: 100}}, 4},
		{"the one in a hurry first", rivals(), 0, 30, []api.Action{compute(5), wait(), compute(5), wait()},
			[]api.Event{released(0, 0, 0), released(0, 1, 0), started(0, 1, 0), worked(5, 5), done(8, 1, 0), started(8, 0, 0), worked(13, 5), done(16, 0, 0)},
			nil, 4},
		{"one in a hurry comes between", rivals(), 40, 80, []api.Action{wait(), compute(10), compute(4), wait(), compute(2)},
			[]api.Event{released(0, 0, 0), released(0, 1, 0), missed(40, 1, 0), started(40, 1, 0), done(43, 1, 0),
				started(43, 0, 0), worked(53, 10), released(50, 1, 1), started(53, 1, 1), worked(57, 4), done(60, 1, 1), worked(62, 2)},
			[]api.Job{{Used: 12, Ran: true}}, 5},
	} {
		d, _ := ran(t, x.c, 0, fresh(t, x.c, 0), blank(), x.l, x.from, x.to)
		if !slices.Equal(d.Events, x.events) {
			t.Errorf("%s: events %v, not %v", x.name, d.Events, x.events)
		}
		if !slices.Equal(d.Jobs, x.jobs) || d.Next != x.next {
			t.Errorf("%s: jobs %v, next %d, not %v, %d", x.name, d.Jobs, d.Next, x.jobs, x.next)
		}
	}
}

// busy has something in each of its fields; its job ran already.
func busy() api.Domain {
	return api.Domain{
		Jobs:     []api.Job{{Number: 4, Released: 400, Used: 2, Ran: true}},
		Released: []int{5},
		Next:     1,
		In:       []api.Ring{{Values: []int{1, 2}}, {Values: []int{7, 8}, Lost: 3}},
		Taken:    []int{6, 5},
		Out:      [][]int{{9}, {10}},
		Events:   []api.Event{ev(390, api.EventOpen, 0, 0)},
	}
}

// E2: what each action brings, done second by a job that ran already, from 411 on.
func TestActions(t *testing.T) {
	for _, x := range []struct {
		name string
		a    api.Action
		tell api.Event
		cost int
		do   func(d *api.Domain)
	}{
		{"compute", compute(6), worked(417, 6), 6, func(d *api.Domain) {}},
		{"read", read(3), worked(421, 10), 10, func(d *api.Domain) {}},
		{"write", write(3), worked(421, 10), 10, func(d *api.Domain) {}},
		{"send", send(0, 255), ev(414, api.EventSent, 0, 0), 3, func(d *api.Domain) { d.Out[0] = []int{9, 255} }},
		{"send by a channel that begins elsewhere", send(1, 4), refused(414, 1), 3, func(d *api.Domain) {}},
		{"send by no channel", send(2, 4), refused(414, 1), 3, func(d *api.Domain) {}},
		{"receive", receive(1), ev(414, api.EventGot, 1, 7), 3, func(d *api.Domain) { d.In[1].Values = []int{8} }},
		{"receive from a channel that ends elsewhere", receive(0), refused(414, 1), 3, func(d *api.Domain) {}},
		{"receive from no channel", receive(2), refused(414, 1), 3, func(d *api.Domain) {}},
		{"receive from the greatest number", receive(math.MaxInt), refused(414, 1), 3, func(d *api.Domain) {}},
		{"clock", clock(), ev(414, api.EventClock, 410, 0), 3, func(d *api.Domain) {}},
		{"take", take(0), ev(414, api.EventTaken, 0, 6), 3, func(d *api.Domain) { d.Taken[0] = 0 }},
		{"take another one's line", take(1), refused(414, 1), 3, func(d *api.Domain) {}},
		{"take no line", take(2), refused(414, 1), 3, func(d *api.Domain) {}},
		{"wait", wait(), done(414, 0, 4), 3, func(d *api.Domain) { d.Jobs = []api.Job{} }},
	} {
		want := busy()
		want.Jobs[0].Used += x.cost
		want.Next = 2
		want.Events = append(want.Events, x.tell)
		x.do(&want)
		got, _ := ran(t, solo(), 0, busy(), blank(), []api.Action{wait(), x.a}, 411, 431)
		if !reflect.DeepEqual(got, want) {
			t.Errorf("%s: %v, not %v", x.name, got, want)
		}
	}
}

// E2: the other domain sends and receives the other way round.
func TestOtherDomain(t *testing.T) {
	c := solo()
	c.Tasks[0].Domain = 1
	d := fresh(t, c, 1)
	d.In[0].Values, d.Taken = []int{5}, []int{4, 3}
	l := []api.Action{send(0, 1), send(1, 2), receive(0), receive(0), receive(1), take(0), take(1), take(1)}
	got, _ := ran(t, c, 1, d, blank(), l, 0, 50)
	want := []api.Event{released(0, 0, 0), started(0, 0, 0), refused(3, 0), ev(6, api.EventSent, 1, 0),
		ev(9, api.EventGot, 0, 5), ev(12, api.EventGot, 0, -1), refused(15, 4),
		refused(18, 5), ev(21, api.EventTaken, 1, 3), ev(24, api.EventTaken, 1, 0)}
	if !slices.Equal(got.Events, want) {
		t.Errorf("events %v, not %v", got.Events, want)
	}
	if len(got.Out[0]) != 0 || !slices.Equal(got.Out[1], []int{2}) || !slices.Equal(got.Taken, []int{4, 0}) {
		t.Errorf("out %v, taken %v", got.Out, got.Taken)
	}
}

// E2: clocks are read behind the action, down to a multiple of Quantum.
func TestClock(t *testing.T) {
	for _, x := range []struct{ quantum, from, want int }{
		{1, 0, 3}, {1, 17, 20}, {3, 0, 3}, {4, 0, 0}, {4, 1, 4}, {10, 16, 10}, {10, 17, 20}, {100, 96, 0}, {100, 97, 100}, {7, 99990, 99988},
	} {
		c := solo()
		c.Quantum = x.quantum
		d := fresh(t, c, 0)
		d.Released[0], d.Jobs = 1000, []api.Job{{Released: 99990, Ran: true}}
		got, _ := ran(t, c, 0, d, blank(), []api.Action{clock()}, x.from, x.from+5)
		if want := ev(x.from+3, api.EventClock, x.want, 0); !slices.Equal(got.Events, []api.Event{want}) {
			t.Errorf("by %d from %d on: %v, not %v", x.quantum, x.from, got.Events, want)
		}
	}
}

// E2: without jobs time goes by, and no action is done.
func TestIdle(t *testing.T) {
	d, _ := ran(t, solo(), 1, fresh(t, solo(), 1), blank(), []api.Action{compute(1)}, 0, 100000)
	if d.Next != 0 || len(d.Events) != 0 {
		t.Errorf("without tasks: next %d, events %v", d.Next, d.Events)
	}
	late := fresh(t, solo(), 0)
	late.Released[0] = 3
	d, _ = ran(t, solo(), 0, late, blank(), []api.Action{compute(1)}, 0, 299)
	if d.Next != 0 || len(d.Events) != 0 || d.Released[0] != 3 {
		t.Errorf("ahead of the next one: %v", d)
	}
	d, _ = ran(t, solo(), 0, late, blank(), []api.Action{compute(1)}, 0, 301)
	if want := []api.Event{released(300, 0, 3), started(300, 0, 3), worked(301, 1)}; !slices.Equal(d.Events, want) {
		t.Errorf("when the next one comes: %v, not %v", d.Events, want)
	}
}

// E2: where no job comes any more, the end does.
func TestNoMoreJobs(t *testing.T) {
	c := solo()
	c.Tasks[0] = api.Task{Domain: 0, Period: 1, Budget: 1, Deadline: 1}
	d := fresh(t, c, 0)
	d.Released[0] = 100000
	got, _ := ran(t, c, 0, d, blank(), []api.Action{compute(1)}, 0, 100000)
	if got.Next != 0 || len(got.Events) != 0 {
		t.Errorf("next %d, events %v", got.Next, got.Events)
	}
}

// E2: Next may be behind all actions.
func TestNextBehindAll(t *testing.T) {
	for _, next := range []int{1, 2, 100000} {
		d := fresh(t, solo(), 0)
		d.Next = next
		got, _ := ran(t, solo(), 0, d, blank(), []api.Action{compute(1)}, 0, 50)
		if got.Next != next || !slices.Equal(got.Events, []api.Event{released(0, 0, 0)}) {
			t.Errorf("next %d: %v", next, got)
		}
	}
}

// E2: a cache goes from action to action, and out at the end; it need not be of the config's size.
func TestCacheGoesOn(t *testing.T) {
	l := []api.Action{write(5), read(5), read(7), read(5), compute(2)}
	d, k := ran(t, solo(), 0, fresh(t, solo(), 0), sets(set(way(0))), l, 0, 80)
	want := []api.Event{released(0, 0, 0), started(0, 0, 0), worked(10, 10), worked(11, 1), worked(26, 15), worked(36, 10), worked(38, 2)}
	if !slices.Equal(d.Events[:7], want) || !reflect.DeepEqual(k, sets(set(way(5)))) {
		t.Errorf("events %v, cache %v", d.Events, k)
	}
	full := sets(set(way(2), written(4)), set(written(1), way(3)))
	if _, k := ran(t, solo(), 0, fresh(t, solo(), 0), full, l, 7, 7); !reflect.DeepEqual(k, full) {
		t.Errorf("in no time: %v", k)
	}
}

// E2: a value comes to Out however much is there; Run names no error for it.
func TestSendMoreThanMayWait(t *testing.T) {
	d := fresh(t, solo(), 0)
	d.Out[0] = make([]int, 60)
	got, _ := ran(t, solo(), 0, d, blank(), []api.Action{send(0, 1), send(0, 2), wait()}, 0, 50)
	want := []api.Event{released(0, 0, 0), started(0, 0, 0), ev(3, api.EventSent, 0, 0), ev(6, api.EventSent, 0, 0), done(9, 0, 0)}
	if !slices.Equal(got.Events, want) || !slices.Equal(got.Out[0], append(make([]int, 60), 1, 2)) {
		t.Errorf("events %v, out %v", got.Events, got.Out)
	}
}

// E3, P1
func TestRunRefuses(t *testing.T) {
	sixty := slices.Repeat([]api.Action{compute(1)}, 60)
	type input struct {
		c        api.Config
		domain   int
		d        api.Domain
		k        api.Cache
		l        []api.Action
		from, to int
	}
	for _, x := range []struct {
		name string
		do   func(x *input)
		want api.Errno
	}{
		{"nothing", func(x *input) {}, api.OK},
		{"config", func(x *input) { x.c.Pad = 0 }, api.ErrState},
		{"domain that is none", func(x *input) { x.domain = 2 }, api.ErrNone},
		{"domain below 0", func(x *input) { x.domain = -1 }, api.ErrNone},
		{"form of the domain", func(x *input) { x.d = api.Domain{} }, api.ErrForm},
		{"too many in Out", func(x *input) { x.d.Out[0] = make([]int, 61) }, api.ErrMany},
		{"the domain ahead of the cache", func(x *input) { x.d.In[0].Values, x.k = make([]int, 3), api.Cache{} }, api.ErrMany},
		{"no cache", func(x *input) { x.k = api.Cache{} }, api.ErrRange},
		{"line in another set", func(x *input) { x.k.Sets[0][0].Line = 1 }, api.ErrState},
		{"the cache ahead of how many actions", func(x *input) { x.k.Sets[0][0].Line, x.l = 1, make([]api.Action, 61) }, api.ErrState},
		{"as many actions as may be", func(x *input) { x.l = sixty }, api.OK},
		{"too many actions", func(x *input) { x.l = append(sixty, wait()) }, api.ErrMany},
		{"too many, wrong ones too", func(x *input) { x.l = make([]api.Action, 61) }, api.ErrMany},
		{"kind of an action", func(x *input) { x.l = []api.Action{wait(), {}} }, api.ErrKind},
		{"range of an action", func(x *input) { x.l = []api.Action{wait(), compute(0)} }, api.ErrRange},
		{"form of an action", func(x *input) { x.l = []api.Action{wait(), {Kind: api.ActWait, N: 1}} }, api.ErrForm},
		{"the first wrong one's", func(x *input) { x.l = []api.Action{wait(), {Kind: api.ActWait, N: 1}, {}, compute(0)} }, api.ErrForm},
		{"also behind what is done", func(x *input) { x.l, x.to = []api.Action{wait(), {}}, 0 }, api.ErrKind},
		{"an action ahead of the times", func(x *input) { x.l, x.from = []api.Action{{}}, -1 }, api.ErrKind},
		{"from below 0", func(x *input) { x.from = -1 }, api.ErrRange},
		{"both below 0", func(x *input) { x.from, x.to = -2, -1 }, api.ErrRange},
		{"to below from", func(x *input) { x.from, x.to = 5, 4 }, api.ErrRange},
		{"to at from", func(x *input) { x.from, x.to = 5, 5 }, api.OK},
		{"to at the greatest time", func(x *input) { x.to = 100000 }, api.OK},
		{"both at the greatest time", func(x *input) { x.from, x.to = 100000, 100000 }, api.OK},
		{"to too great", func(x *input) { x.to = 100001 }, api.ErrRange},
		{"both too great", func(x *input) { x.from, x.to = 100001, 100001 }, api.ErrRange},
		{"least and greatest number", func(x *input) { x.from, x.to = math.MinInt, math.MaxInt }, api.ErrRange},
	} {
		in := input{c: solo(), d: fresh(t, solo(), 0), k: blank(), l: []api.Action{wait()}, to: 9}
		x.do(&in)
		d, k, e := Run(in.c, in.domain, in.d, in.k, in.l, in.from, in.to)
		if e != x.want {
			t.Errorf("%s: error %d, not %d", x.name, e, x.want)
		}
		if e != api.OK && (!reflect.DeepEqual(d, api.Domain{}) || k.Sets != nil) {
			t.Errorf("%s: %v, %v", x.name, d, k)
		}
	}
}

// script of 60 actions of all kinds, drawn by a seed.
func script(seed uint32) []api.Action {
	draw := func(n int) int {
		seed = seed*1664525 + 1013904223
		return int(seed>>8) % n
	}
	l := make([]api.Action, 60)
	for i := range l {
		l[i] = []api.Action{compute(1 + draw(30)), read(1 + draw(12)), write(1 + draw(12)), send(draw(3), draw(256)), receive(draw(3)), clock(), take(draw(3)), wait()}[draw(8)]
	}
	return l
}

// acts tells whether an event is what an action brings.
func acts(e api.Event) bool {
	return slices.Contains([]int{api.EventWorked, api.EventSent, api.EventGot, api.EventClock, api.EventTaken, api.EventRefused, api.EventDone}, e.Kind)
}

// E4: windows one behind the other, with gaps.
func TestWithinTheWindow(t *testing.T) {
	for seed := range uint32(200) {
		c := []api.Config{solo(), rivals()}[seed%2]
		l, d, k := script(seed), fresh(t, c, 0), blank()
		done := 0
		for from := 0; from < 4000; from += 100 + int(seed) {
			to := from + 31 + int(seed)%70
			before := len(d.Events)
			d, k = ran(t, c, 0, d, k, l, from, to)
			for _, e := range d.Events[before:] {
				early := e.Kind == api.EventRelease || e.Kind == api.EventMiss
				if e.At > to || e.At < from && !early {
					t.Errorf("seed %d, from %d to %d: %v", seed, from, to, e)
				}
				if acts(e) {
					done++
				}
			}
			if d.Next != done {
				t.Errorf("seed %d, from %d to %d: next %d, but %d were done", seed, from, to, d.Next, done)
			}
			if e := ready.Check(c, 0, d); e != api.OK {
				t.Fatalf("seed %d, from %d to %d: Check = %d", seed, from, to, e)
			}
		}
		if done < 30 {
			t.Errorf("seed %d: only %d actions were done", seed, done)
		}
	}
}
