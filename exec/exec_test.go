package exec

import (
	"math"
	"reflect"
	"slices"
	"testing"

	"clockwall/api"
	"clockwall/ready"
)

func compute(n int) api.Action       { return api.Action{Kind: api.ActCompute, N: n} }
func read(line int) api.Action       { return api.Action{Kind: api.ActRead, N: line} }
func write(line int) api.Action      { return api.Action{Kind: api.ActWrite, N: line} }
func send(channel, v int) api.Action { return api.Action{Kind: api.ActSend, N: channel, Value: v} }
func receive(channel int) api.Action { return api.Action{Kind: api.ActReceive, N: channel} }
func take(line int) api.Action       { return api.Action{Kind: api.ActTake, N: line} }
func clock() api.Action              { return api.Action{Kind: api.ActClock} }
func wait() api.Action               { return api.Action{Kind: api.ActWait} }

func ev(at, kind, a, b int) api.Event { return api.Event{At: at, Kind: kind, A: a, B: b} }

func opened(at, slot int) api.Event       { return ev(at, api.EventOpen, slot, 0) }
func closed(at int) api.Event             { return ev(at, api.EventClose, 0, 0) }
func released(at, task, n int) api.Event  { return ev(at, api.EventRelease, task, n) }
func started(at, task, n int) api.Event   { return ev(at, api.EventStart, task, n) }
func done(at, task, n int) api.Event      { return ev(at, api.EventDone, task, n) }
func missed(at, task, n int) api.Event    { return ev(at, api.EventMiss, task, n) }
func worked(at, cost int) api.Event       { return ev(at, api.EventWorked, cost, 0) }
func got(at, channel, v int) api.Event    { return ev(at, api.EventGot, channel, v) }
func sent(at, channel int) api.Event      { return ev(at, api.EventSent, channel, 0) }
func taken(at, line, times int) api.Event { return ev(at, api.EventTaken, line, times) }

// single is the config of the document's seventh example.
func single() api.Config {
	return api.Config{
		Sets: 1, Ways: 1, Domains: 1, Pad: 10, Quantum: 4,
		Slots: []api.Slot{{Domain: 0, Length: 100}},
		Tasks: []api.Task{{Domain: 0, Period: 50, Budget: 40, Deadline: 30}},
	}
}

// shifts: slots begin at 0, 100, 250, then at 370, 470, 620, ..; their windows are 78, 128 and 98 long, as Pad is as little as may be. The first domain has two of them, the last one none. One job of each is there for as long as a run may be.
func shifts() api.Config {
	long := api.Task{Domain: 0, Period: 5000, Budget: 5000, Deadline: 5000}
	other := long
	other.Domain = 1
	return api.Config{
		Sets: 2, Ways: 2, Domains: 3, Pad: 22, Quantum: 10,
		Slots:    []api.Slot{{Domain: 0, Length: 100}, {Domain: 1, Length: 150}, {Domain: 0, Length: 120}},
		Owners:   []int{0, 1},
		Channels: []api.Channel{{From: 0, To: 1, Size: 2}, {From: 1, To: 0, Size: 1}},
		Tasks:    []api.Task{long, other},
	}
}

// script of one list of actions a domain.
func script(rounds int, actions ...[]api.Action) api.Script {
	return api.Script{Actions: actions, Rounds: rounds}
}

// ran is Run, where it must work.
func ran(t *testing.T, c api.Config, s api.Script) ([]api.Domain, int) {
	t.Helper()
	domains, longest, e := Run(c, s)
	if e != api.OK {
		t.Fatalf("Run(%v, %v): error %d", c, s, e)
	}
	return domains, longest
}

// The document's seventh example.
func TestExample(t *testing.T) {
	s := script(1, []api.Action{clock()})
	domains, longest := ran(t, single(), s)
	want := []api.Event{
		opened(0, 0), released(0, 0, 0), started(0, 0, 0), ev(3, api.EventClock, 0, 0),
		released(50, 0, 1), missed(30, 0, 0), missed(80, 0, 1), closed(90),
	}
	if !slices.Equal(domains[0].Events, want) || domains[0].Next != 1 || longest != 2 {
		t.Errorf("%v, %d, not %v", domains, longest, want)
	}
	text, e := Trace(single(), s, 0)
	if e != api.OK || text != "0 1 0 0\n0 2 0 0\n0 3 0 0\n3 7 0 0\n50 2 0 1\n30 6 0 0\n80 6 0 1\n90 13 0 0\n" {
		t.Errorf("%q, %d", text, e)
	}
}

// G2: what happens in each domain.
func TestRun(t *testing.T) {
	for _, x := range []struct {
		name    string
		s       api.Script
		events  [][]api.Event
		longest int
	}{
		{"no rounds", script(0, []api.Action{wait()}, []api.Action{wait()}, nil), [][]api.Event{nil, nil, nil}, 0},
		{"no actions", script(1, nil, nil, nil), [][]api.Event{
			{opened(0, 0), released(0, 0, 0), closed(78), opened(250, 2), closed(348)},
			{opened(100, 1), released(0, 1, 0), closed(228)},
			nil,
		}, 2},
		{"a cache is empty again, whoever filled it", script(1,
			[]api.Action{write(2), write(4), write(1), write(3), read(2), compute(38), read(2)},
			[]api.Action{read(2), read(6), read(8), read(2)},
			[]api.Action{read(2)},
		), [][]api.Event{
			{opened(0, 0), released(0, 0, 0), started(0, 0, 0), worked(10, 10), worked(20, 10), worked(30, 10), worked(40, 10), worked(41, 1), closed(78),
				opened(250, 2), worked(288, 38), worked(298, 10), closed(348)},
			{opened(100, 1), released(0, 1, 0), started(100, 1, 0), worked(110, 10), worked(120, 10), worked(130, 10), worked(140, 10), closed(228)},
			nil,
		}, 22},
		{"the longest flush is the last one", script(1,
			[]api.Action{write(2), compute(69), write(2), write(3)},
			[]api.Action{write(1), read(2), read(3)},
			nil,
		), [][]api.Event{
			{opened(0, 0), released(0, 0, 0), started(0, 0, 0), worked(10, 10), closed(78),
				opened(250, 2), worked(319, 69), worked(329, 10), worked(339, 10), closed(348)},
			{opened(100, 1), released(0, 1, 0), started(100, 1, 0), worked(110, 10), worked(120, 10), worked(130, 10), closed(228)},
			nil,
		}, 12},
		{"what is sent comes when the slot is over", script(2,
			[]api.Action{receive(1), send(0, 7), send(0, 8), send(0, 9), receive(1), compute(70), receive(1), send(0, 6)},
			[]api.Action{receive(0), send(1, 5), receive(0), send(1, 4), receive(0), compute(120), receive(0)},
			nil,
		), [][]api.Event{
			{opened(0, 0), released(0, 0, 0), started(0, 0, 0), got(3, 1, -1), sent(6, 0), sent(9, 0), sent(12, 0), got(15, 1, -1), closed(78),
				opened(250, 2), worked(320, 70), got(323, 1, 5), sent(326, 0), closed(348), opened(370, 0), closed(448), opened(620, 2), closed(718)},
			{opened(100, 1), released(0, 1, 0), started(100, 1, 0), got(103, 0, 7), sent(106, 1), got(109, 0, 8), sent(112, 1), got(115, 0, -1), closed(228),
				opened(470, 1), worked(590, 120), got(593, 0, 6), closed(598)},
			nil,
		}, 2},
		{"a job is done; the next action waits for one", script(1,
			[]api.Action{wait(), wait()}, []api.Action{compute(128), wait()}, nil,
		), [][]api.Event{
			{opened(0, 0), released(0, 0, 0), started(0, 0, 0), done(3, 0, 0), closed(78), opened(250, 2), closed(348)},
			{opened(100, 1), released(0, 1, 0), started(100, 1, 0), worked(228, 128), closed(228)},
			nil,
		}, 2},
	} {
		domains, longest := ran(t, shifts(), x.s)
		if longest != x.longest {
			t.Errorf("%s: longest flush %d, not %d", x.name, longest, x.longest)
		}
		for i, want := range x.events {
			if !slices.Equal(domains[i].Events, want) {
				t.Errorf("%s: domain %d: %v, not %v", x.name, i, domains[i].Events, want)
			}
		}
	}
}

// G2: each domain takes what came from its last slot's beginning on, ahead of this one's; at first from 0 on.
func TestArrivals(t *testing.T) {
	s := script(2,
		[]api.Action{take(0), compute(75), take(0), compute(95), take(0), compute(75), take(0)},
		[]api.Action{take(1), compute(125), take(1), take(1), take(0)},
		nil,
	)
	for _, at := range []int{0, 249, 250, 251, 369, 370, 620} {
		s.Arrivals = append(s.Arrivals, api.Arrival{At: at, Line: 0})
	}
	for _, at := range []int{470, 469, 100, 99, 0, 100} {
		s.Arrivals = append(s.Arrivals, api.Arrival{At: at, Line: 1})
	}
	domains, _ := ran(t, shifts(), s)
	for i, want := range [][]api.Event{
		{opened(0, 0), released(0, 0, 0), started(0, 0, 0), taken(3, 0, 0), worked(78, 75), closed(78), opened(250, 2), taken(253, 0, 2), worked(348, 95), closed(348),
			opened(370, 0), taken(373, 0, 3), worked(448, 75), closed(448), opened(620, 2), taken(623, 0, 1), closed(718)},
		{opened(100, 1), released(0, 1, 0), started(100, 1, 0), taken(103, 1, 2), worked(228, 125), closed(228),
			opened(470, 1), taken(473, 1, 3), taken(476, 1, 0), ev(479, api.EventRefused, 4, 0), closed(598)},
		nil,
	} {
		if !slices.Equal(domains[i].Events, want) {
			t.Errorf("domain %d: %v, not %v", i, domains[i].Events, want)
		}
	}
}

// G2: all of each domain at the end, not its events alone.
func TestDomainsAtTheEnd(t *testing.T) {
	s := script(1, []api.Action{send(0, 1), send(0, 2), send(0, 3), compute(60), compute(70), send(0, 4)}, []api.Action{send(1, 9), receive(0), compute(119)}, []api.Action{wait()})
	s.Arrivals = []api.Arrival{{At: 20, Line: 0}, {At: 30, Line: 1}, {At: 40, Line: 1}, {At: 300, Line: 0}}
	domains, _ := ran(t, shifts(), s)
	want := []api.Domain{
		{Jobs: []api.Job{{Used: 142, Ran: true}}, Released: []int{1, 0}, Next: 6, In: []api.Ring{{}, {Values: []int{9}}}, Taken: []int{1, 0}, Out: [][]int{nil, nil}},
		{Jobs: []api.Job{{Task: 1, Used: 125, Ran: true}}, Released: []int{0, 1}, Next: 3, In: []api.Ring{{Values: []int{2, 4}, Lost: 1}, {}}, Taken: []int{0, 2}, Out: [][]int{nil, nil}},
		{Released: []int{0, 0}, In: []api.Ring{{}, {}}, Taken: []int{0, 0}, Out: [][]int{nil, nil}},
	}
	for i, d := range domains {
		d.Events = nil
		if settled := settle(d); !reflect.DeepEqual(settled, want[i]) {
			t.Errorf("domain %d: %v, not %v", i, settled, want[i])
		}
	}
}

// settle makes lists without elements nil: they may come out either way.
func settle(d api.Domain) api.Domain {
	d.Jobs = bare(d.Jobs)
	for i := range d.In {
		d.In[i].Values = bare(d.In[i].Values)
	}
	for i := range d.Out {
		d.Out[i] = bare(d.Out[i])
	}
	return d
}

func bare[T any](l []T) []T {
	if len(l) == 0 {
		return nil
	}
	return l
}

// G2: without rounds all are as at the beginning.
func TestNoRounds(t *testing.T) {
	s := script(0, []api.Action{compute(1)}, []api.Action{compute(1)}, []api.Action{compute(1)})
	s.Arrivals = []api.Arrival{{At: 0, Line: 0}}
	domains, longest := ran(t, shifts(), s)
	if len(domains) != 3 || longest != 0 {
		t.Fatalf("%v, %d", domains, longest)
	}
	for i, d := range domains {
		want, _ := ready.New(shifts(), i)
		if !reflect.DeepEqual(settle(d), settle(want)) {
			t.Errorf("domain %d: %v, not %v", i, d, want)
		}
	}
}

// G4: whatever happens in them, slots begin when they must, and a flush of all that can be written takes Pad, where that is as little as may be.
func TestFullCaches(t *testing.T) {
	for sets := 1; sets <= api.MaxSets; sets++ {
		for ways := 1; ways <= api.MaxWays; ways++ {
			c := shifts()
			c.Sets, c.Ways, c.Pad = sets, ways, 2+5*sets*ways
			c.Slots = []api.Slot{{Domain: 0, Length: 500}, {Domain: 1, Length: 100}}
			var all []api.Action
			for line := range 30 {
				all = append(all, write(line+1))
			}
			domains, longest := ran(t, c, script(8, all, all, nil))
			if longest != c.Pad {
				t.Errorf("%d sets of %d ways: a flush takes %d, not %d", sets, ways, longest, c.Pad)
			}
			for i, first := range []int{0, 500} {
				checkBegins(t, domains[i].Events, i, first)
			}
		}
	}
}

// checkBegins of a slot that is there once a round of 600 cycles.
func checkBegins(t *testing.T, l []api.Event, slot, first int) {
	t.Helper()
	var opens []api.Event
	for _, e := range l {
		if e.Kind == api.EventOpen {
			opens = append(opens, e)
		}
	}
	if len(opens) != 8 {
		t.Errorf("slot %d begins %d times", slot, len(opens))
	}
	for round, e := range opens {
		if e != opened(first+600*round, slot) {
			t.Errorf("slot %d of round %d: %v", slot, round, e)
		}
	}
}

// G2: the longest run there is.
func TestLongestRun(t *testing.T) {
	c := shifts()
	c.Slots = slices.Repeat([]api.Slot{{Domain: 2, Length: 1000}}, 6)
	c.Tasks = slices.Repeat([]api.Task{{Domain: 2, Period: 1, Budget: 1, Deadline: 1}}, 6)
	domains, _ := ran(t, c, script(8, nil, nil, slices.Repeat([]api.Action{wait()}, 60)))
	d := domains[2]
	if last := d.Events[len(d.Events)-1]; d.Next != 60 || last != closed(47978) {
		t.Errorf("next %d, at last %v", d.Next, last)
	}
	if !slices.Equal(d.Released, slices.Repeat([]int{47979}, 6)) || len(d.Jobs) != 20 {
		t.Errorf("released %v, jobs %v", d.Released, d.Jobs)
	}
}

// G3: a domain that never had a slot has no lines; numbers below 0 have their sign.
func TestTrace(t *testing.T) {
	s := script(1, []api.Action{receive(1), read(3), send(0, 200)}, []api.Action{receive(0), take(0)}, nil)
	for i, want := range []string{
		"0 1 0 0\n0 2 0 0\n0 3 0 0\n3 8 1 -1\n13 11 10 0\n16 9 0 0\n78 13 0 0\n250 1 2 0\n348 13 0 0\n",
		"100 1 1 0\n0 2 1 0\n100 3 1 0\n103 8 0 200\n106 12 1 0\n228 13 0 0\n",
		"",
	} {
		if text, e := Trace(shifts(), s, i); text != want || e != api.OK {
			t.Errorf("domain %d: %q, %d, not %q", i, text, e, want)
		}
	}
	for _, i := range []int{-1, 3, math.MinInt, math.MaxInt} {
		if text, e := Trace(shifts(), s, i); text != "" || e != api.ErrNone {
			t.Errorf("domain %d: %q, %d", i, text, e)
		}
	}
}

// G1, P1: all calls tell the same, and nothing else; also of a domain that is none.
func TestCheck(t *testing.T) {
	many := slices.Repeat([]api.Action{compute(1)}, 61)
	arrivals := func(l ...api.Arrival) func(c *api.Config, s *api.Script) {
		return func(c *api.Config, s *api.Script) { s.Arrivals = l }
	}
	for _, x := range []struct {
		name string
		do   func(c *api.Config, s *api.Script)
		want api.Errno
	}{
		{"nothing wrong", func(c *api.Config, s *api.Script) {}, api.OK},
		{"no config", func(c *api.Config, s *api.Script) { *c = api.Config{} }, api.ErrRange},
		{"too little pad", func(c *api.Config, s *api.Script) { c.Pad = 21 }, api.ErrState},
		{"no slots", func(c *api.Config, s *api.Script) { c.Slots = nil }, api.ErrMany},
		{"the config ahead of the actions", func(c *api.Config, s *api.Script) { c.Owners[0], s.Actions = 3, nil }, api.ErrNone},
		{"no script", func(c *api.Config, s *api.Script) { *s = api.Script{} }, api.ErrForm},
		{"a domain without actions of its own", func(c *api.Config, s *api.Script) { s.Actions = s.Actions[:2] }, api.ErrForm},
		{"actions of no domain", func(c *api.Config, s *api.Script) { s.Actions = append(s.Actions, nil) }, api.ErrForm},
		{"actions ahead of rounds", func(c *api.Config, s *api.Script) { s.Actions, s.Rounds = s.Actions[:2], 9 }, api.ErrForm},
		{"no rounds", func(c *api.Config, s *api.Script) { s.Rounds = 0 }, api.OK},
		{"as many rounds as may be", func(c *api.Config, s *api.Script) { s.Rounds = 8 }, api.OK},
		{"rounds below 0", func(c *api.Config, s *api.Script) { s.Rounds = -1 }, api.ErrRange},
		{"too many rounds", func(c *api.Config, s *api.Script) { s.Rounds = 9 }, api.ErrRange},
		{"greatest number of rounds", func(c *api.Config, s *api.Script) { s.Rounds = math.MaxInt }, api.ErrRange},
		{"rounds ahead of arrivals", func(c *api.Config, s *api.Script) { s.Rounds, s.Arrivals = 9, make([]api.Arrival, 41) }, api.ErrRange},
		{"as many arrivals as may be", arrivals(make([]api.Arrival, 40)...), api.OK},
		{"too many arrivals", arrivals(make([]api.Arrival, 41)...), api.ErrMany},
		{"too many, wrong ones too", arrivals(slices.Repeat([]api.Arrival{{At: -1}}, 41)...), api.ErrMany},
		{"arrivals at the least and greatest time", arrivals(api.Arrival{At: 0}, api.Arrival{At: 100000}), api.OK},
		{"arrival below 0", arrivals(api.Arrival{}, api.Arrival{At: -1}), api.ErrRange},
		{"arrival too late", arrivals(api.Arrival{}, api.Arrival{At: 100001}), api.ErrRange},
		{"arrivals of each line", arrivals(api.Arrival{Line: 0}, api.Arrival{Line: 1}), api.OK},
		{"arrival of a line below 0", arrivals(api.Arrival{Line: -1}), api.ErrNone},
		{"arrival of no line", arrivals(api.Arrival{}, api.Arrival{Line: 2}), api.ErrNone},
		{"arrival without lines", func(c *api.Config, s *api.Script) { c.Owners, s.Arrivals = nil, make([]api.Arrival, 1) }, api.ErrNone},
		{"all times ahead of any line", arrivals(api.Arrival{Line: 2}, api.Arrival{At: -1}), api.ErrRange},
		{"arrivals ahead of actions", func(c *api.Config, s *api.Script) { s.Arrivals, s.Actions[0] = []api.Arrival{{Line: 2}}, many }, api.ErrNone},
		{"as many actions as may be", func(c *api.Config, s *api.Script) { s.Actions[2] = many[:60] }, api.OK},
		{"too many actions", func(c *api.Config, s *api.Script) { s.Actions[2] = many }, api.ErrMany},
		{"too many, wrong ones too", func(c *api.Config, s *api.Script) { s.Actions[0] = make([]api.Action, 61) }, api.ErrMany},
		{"kind of an action", func(c *api.Config, s *api.Script) { s.Actions[2] = []api.Action{wait(), {}} }, api.ErrKind},
		{"range of an action", func(c *api.Config, s *api.Script) { s.Actions[1] = []api.Action{wait(), compute(201)} }, api.ErrRange},
		{"form of an action", func(c *api.Config, s *api.Script) { s.Actions[0] = []api.Action{wait(), {Kind: api.ActWait, Value: 1}} }, api.ErrForm},
		{"the first wrong one's", func(c *api.Config, s *api.Script) {
			s.Actions[0] = []api.Action{{Kind: api.ActWait, N: 1}, {}, read(0)}
		}, api.ErrForm},
		{"domain by domain", func(c *api.Config, s *api.Script) { s.Actions[0], s.Actions[1] = []api.Action{read(0)}, many }, api.ErrRange},
		{"domain by domain, how many first", func(c *api.Config, s *api.Script) { s.Actions[1], s.Actions[2] = many, []api.Action{{}} }, api.ErrMany},
		{"also of a domain without slots, without rounds", func(c *api.Config, s *api.Script) { s.Rounds, s.Actions[2] = 0, []api.Action{{}} }, api.ErrKind},
		{"channels and lines that are none are no error", func(c *api.Config, s *api.Script) {
			s.Actions[0] = []api.Action{send(9, 0), receive(math.MaxInt), take(9), send(1, 0), receive(0), take(1)}
		}, api.OK},
	} {
		c, s := shifts(), script(1, []api.Action{compute(1)}, []api.Action{wait()}, nil)
		x.do(&c, &s)
		if e := Check(c, s); e != x.want {
			t.Errorf("%s: Check = %d, not %d", x.name, e, x.want)
		}
		domains, longest, e := Run(c, s)
		if e != x.want || e != api.OK && (len(domains) != 0 || longest != 0) {
			t.Errorf("%s: Run = %v, %d, %d, not %d", x.name, domains, longest, e, x.want)
		}
		for _, domain := range []int{1, -1, 9} {
			text, e := Trace(c, s, domain)
			want := x.want
			if want == api.OK && domain != 1 {
				want = api.ErrNone
			}
			if e != want || e != api.OK && text != "" {
				t.Errorf("%s: Trace of %d = %q, %d, not %d", x.name, domain, text, e, want)
			}
		}
	}
}
