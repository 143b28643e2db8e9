package apart

import (
	"math"
	"reflect"
	"slices"
	"testing"

	"clockwall/api"
	"clockwall/exec"
)

func compute(n int) api.Action       { return api.Action{Kind: api.ActCompute, N: n} }
func read(line int) api.Action       { return api.Action{Kind: api.ActRead, N: line} }
func write(line int) api.Action      { return api.Action{Kind: api.ActWrite, N: line} }
func send(channel, v int) api.Action { return api.Action{Kind: api.ActSend, N: channel, Value: v} }
func receive(channel int) api.Action { return api.Action{Kind: api.ActReceive, N: channel} }
func take(line int) api.Action       { return api.Action{Kind: api.ActTake, N: line} }
func clock() api.Action              { return api.Action{Kind: api.ActClock} }
func wait() api.Action               { return api.Action{Kind: api.ActWait} }

// chain of domains: the first one reaches the second one, that the third one; the last one reaches none, and none reaches it. Each has a slot and a line, and one job for as long as a run may be.
func chain() api.Config {
	c := api.Config{
		Sets: 2, Ways: 2, Domains: 4, Pad: 22, Quantum: 10,
		Owners:   []int{3, 2, 1, 0},
		Channels: []api.Channel{{From: 1, To: 2, Size: 2}, {From: 0, To: 1, Size: 1}},
	}
	for i := range c.Domains {
		c.Slots = append(c.Slots, api.Slot{Domain: i, Length: 100})
		c.Tasks = append(c.Tasks, api.Task{Domain: i, Period: 5000, Budget: 5000, Deadline: 5000})
	}
	return c
}

// busy: each domain has something of its own to do, with memory that the others use too, and takes its line.
func busy() api.Script {
	return api.Script{
		Actions: [][]api.Action{
			{write(2), write(4), send(1, 7), take(3)},
			{read(2), receive(1), read(6), send(0, 8), take(2), clock()},
			{read(4), write(6), write(2), receive(0), take(1)},
			{write(2), compute(40), compute(20), read(2), take(0), clock()},
		},
		Arrivals: []api.Arrival{{At: 5, Line: 0}, {At: 6, Line: 1}, {At: 7, Line: 2}, {At: 8, Line: 3}, {At: 9, Line: 0}, {At: 10, Line: 1}},
		Rounds:   2,
	}
}

// The document's eighth example.
func TestExample(t *testing.T) {
	c := api.Config{
		Sets: 1, Ways: 1, Domains: 1, Pad: 10, Quantum: 4,
		Slots: []api.Slot{{Domain: 0, Length: 100}},
		Tasks: []api.Task{{Domain: 0, Period: 50, Budget: 40, Deadline: 30}},
	}
	s := api.Script{Actions: [][]api.Action{{clock()}}, Rounds: 1}
	want := []api.Event{
		{At: 0, Kind: api.EventOpen}, {At: 0, Kind: api.EventRelease}, {At: 0, Kind: api.EventStart}, {At: 3, Kind: api.EventClock},
		{At: 50, Kind: api.EventRelease, B: 1}, {At: 30, Kind: api.EventMiss}, {At: 80, Kind: api.EventMiss, B: 1}, {At: 90, Kind: api.EventClose},
	}
	alone, e := Alone(c, s, 0)
	if e != api.OK || !slices.Equal(alone.Events, want) || alone.Next != 1 {
		t.Errorf("%v, %d, not %v", alone, e, want)
	}
	machine, _, _ := exec.Run(c, s)
	if !reflect.DeepEqual(machine[0], alone) {
		t.Errorf("%v, not %v", alone, machine[0])
	}
}

// H1: each window has a cache that is empty when it begins, and its own to the end.
func TestRun(t *testing.T) {
	domains, e := Run(chain(), busy())
	if e != api.OK || len(domains) != 4 {
		t.Fatalf("%v, %d", domains, e)
	}
	for i, want := range [][]api.Event{
		{{At: 0, Kind: api.EventOpen}, {Kind: api.EventRelease}, {At: 0, Kind: api.EventStart},
			{At: 10, Kind: api.EventWorked, A: 10}, {At: 20, Kind: api.EventWorked, A: 10}, {At: 23, Kind: api.EventSent, A: 1}, {At: 26, Kind: api.EventTaken, A: 3},
			{At: 78, Kind: api.EventClose}, {At: 400, Kind: api.EventOpen}, {At: 478, Kind: api.EventClose}},
		{{At: 100, Kind: api.EventOpen, A: 1}, {Kind: api.EventRelease, A: 1}, {At: 100, Kind: api.EventStart, A: 1},
			{At: 110, Kind: api.EventWorked, A: 10}, {At: 113, Kind: api.EventGot, A: 1, B: 7}, {At: 123, Kind: api.EventWorked, A: 10}, {At: 126, Kind: api.EventSent},
			{At: 129, Kind: api.EventTaken, A: 2, B: 1}, {At: 132, Kind: api.EventClock, A: 130},
			{At: 178, Kind: api.EventClose}, {At: 500, Kind: api.EventOpen, A: 1}, {At: 578, Kind: api.EventClose}},
		{{At: 200, Kind: api.EventOpen, A: 2}, {Kind: api.EventRelease, A: 2}, {At: 200, Kind: api.EventStart, A: 2},
			{At: 210, Kind: api.EventWorked, A: 10}, {At: 220, Kind: api.EventWorked, A: 10}, {At: 230, Kind: api.EventWorked, A: 10}, {At: 233, Kind: api.EventGot, B: 8},
			{At: 236, Kind: api.EventTaken, A: 1, B: 2}, {At: 278, Kind: api.EventClose}, {At: 600, Kind: api.EventOpen, A: 2}, {At: 678, Kind: api.EventClose}},
		{{At: 300, Kind: api.EventOpen, A: 3}, {Kind: api.EventRelease, A: 3}, {At: 300, Kind: api.EventStart, A: 3},
			{At: 310, Kind: api.EventWorked, A: 10}, {At: 350, Kind: api.EventWorked, A: 40}, {At: 370, Kind: api.EventWorked, A: 20},
			{At: 378, Kind: api.EventClose}, {At: 700, Kind: api.EventOpen, A: 3}, {At: 710, Kind: api.EventWorked, A: 10},
			{At: 713, Kind: api.EventTaken, B: 2}, {At: 716, Kind: api.EventClock, A: 710}, {At: 778, Kind: api.EventClose}},
	} {
		if !slices.Equal(domains[i].Events, want) {
			t.Errorf("domain %d: %v, not %v", i, domains[i].Events, want)
		}
	}
}

// H1: without rounds all are as at the beginning.
func TestNoRounds(t *testing.T) {
	s := busy()
	s.Rounds = 0
	domains, e := Run(chain(), s)
	if e != api.OK || len(domains) != 4 {
		t.Fatalf("%v, %d", domains, e)
	}
	for i, d := range domains {
		if d.Next != 0 || len(d.Events) != 0 || len(d.Jobs) != 0 || !slices.Equal(d.Released, make([]int, 4)) || !slices.Equal(d.Taken, make([]int, 4)) {
			t.Errorf("domain %d: %v", i, d)
		}
	}
}

// H1
func TestOnly(t *testing.T) {
	s := busy()
	for domain, x := range []struct {
		actions  [][]api.Action
		arrivals []api.Arrival
	}{
		{[][]api.Action{s.Actions[0], nil, nil, nil}, []api.Arrival{{At: 8, Line: 3}}},
		{[][]api.Action{s.Actions[0], s.Actions[1], nil, nil}, []api.Arrival{{At: 7, Line: 2}, {At: 8, Line: 3}}},
		{[][]api.Action{s.Actions[0], s.Actions[1], s.Actions[2], nil}, []api.Arrival{{At: 6, Line: 1}, {At: 7, Line: 2}, {At: 8, Line: 3}, {At: 10, Line: 1}}},
		{[][]api.Action{nil, nil, nil, s.Actions[3]}, []api.Arrival{{At: 5, Line: 0}, {At: 9, Line: 0}}},
	} {
		only, e := Only(chain(), s, domain)
		if e != api.OK || only.Rounds != 2 || !slices.Equal(only.Arrivals, x.arrivals) || !slices.EqualFunc(only.Actions, x.actions, slices.Equal) {
			t.Errorf("domain %d: %v, %d, not %v", domain, only, e, x)
		}
	}
}

// H1: channels that lead round: all reach each other.
func TestOnlyAll(t *testing.T) {
	c, s := chain(), busy()
	c.Channels = append(c.Channels, api.Channel{From: 2, To: 3, Size: 1}, api.Channel{From: 3, To: 0, Size: 1})
	for domain := range c.Domains {
		if only, e := Only(c, s, domain); e != api.OK || !reflect.DeepEqual(only, s) {
			t.Errorf("domain %d: %v, %d, not %v", domain, only, e, s)
		}
	}
}

// H1, H2: alone each is as with the others; but for those that reach it, nobody else does anything then.
func TestAlone(t *testing.T) {
	domains, _ := Run(chain(), busy())
	machine, _, _ := exec.Run(chain(), busy())
	for i, want := range domains {
		if !reflect.DeepEqual(machine[i], want) {
			t.Errorf("domain %d: on the machine %v, not %v", i, machine[i], want)
		}
		if alone, e := Alone(chain(), busy(), i); e != api.OK || !reflect.DeepEqual(alone, want) {
			t.Errorf("domain %d: alone %v, %d, not %v", i, alone, e, want)
		}
	}
}

// H2: whatever the others do, it can't tell.
func TestOthersCannotBeTold(t *testing.T) {
	before, _, _ := exec.Run(chain(), busy())
	s := busy()
	s.Actions[3] = []api.Action{write(2), write(4), write(1), write(3), wait()}
	s.Actions[2] = nil
	s.Arrivals = slices.DeleteFunc(s.Arrivals, func(a api.Arrival) bool { return a.Line < 2 })
	after, _, e := exec.Run(chain(), s)
	if e != api.OK || !reflect.DeepEqual(after[:2], before[:2]) {
		t.Errorf("%v, %d, not %v", after, e, before)
	}
	s.Actions[0][2].Value = 9
	if after, _, _ := exec.Run(chain(), s); reflect.DeepEqual(after[1], before[1]) {
		t.Errorf("by a channel it can: %v", after[1])
	}
}

// H1, P1: Check of the machine first, then whether there is such a domain.
func TestRefused(t *testing.T) {
	for _, x := range []struct {
		name string
		do   func(c *api.Config, s *api.Script)
		want api.Errno
	}{
		{"no config", func(c *api.Config, s *api.Script) { *c = api.Config{} }, api.ErrRange},
		{"too little pad", func(c *api.Config, s *api.Script) { c.Pad = 21 }, api.ErrState},
		{"channel twice", func(c *api.Config, s *api.Script) { c.Channels[1] = c.Channels[0] }, api.ErrTwice},
		{"actions of no domain", func(c *api.Config, s *api.Script) { s.Actions = append(s.Actions, nil) }, api.ErrForm},
		{"too many rounds", func(c *api.Config, s *api.Script) { s.Rounds = 9 }, api.ErrRange},
		{"too many arrivals", func(c *api.Config, s *api.Script) { s.Arrivals = make([]api.Arrival, 41) }, api.ErrMany},
		{"arrival of no line", func(c *api.Config, s *api.Script) { s.Arrivals[5].Line = 4 }, api.ErrNone},
		{"too many actions of one that does not count", func(c *api.Config, s *api.Script) { s.Actions[3] = make([]api.Action, 61) }, api.ErrMany},
		{"wrong action of one that does not count", func(c *api.Config, s *api.Script) { s.Actions[3][5].Kind = 9 }, api.ErrKind},
		{"arrival at no time, of a line that does not count", func(c *api.Config, s *api.Script) { s.Arrivals[0].At = -1 }, api.ErrRange},
	} {
		c, s := chain(), busy()
		x.do(&c, &s)
		if l, e := Run(c, s); e != x.want || len(l) != 0 {
			t.Errorf("%s: Run = %v, %d, not %d", x.name, l, e, x.want)
		}
		for _, domain := range []int{0, -1, 4} {
			checkRefused(t, x.name, c, s, domain, x.want)
		}
	}
	for _, domain := range []int{-1, 4, math.MinInt, math.MaxInt} {
		checkRefused(t, "no such domain", chain(), busy(), domain, api.ErrNone)
	}
}

func checkRefused(t *testing.T, name string, c api.Config, s api.Script, domain int, want api.Errno) {
	t.Helper()
	if only, e := Only(c, s, domain); e != want || !reflect.DeepEqual(only, api.Script{}) {
		t.Errorf("%s: Only of %d = %v, %d, not %d", name, domain, only, e, want)
	}
	if alone, e := Alone(c, s, domain); e != want || !reflect.DeepEqual(alone, api.Domain{}) {
		t.Errorf("%s: Alone of %d = %v, %d, not %d", name, domain, alone, e, want)
	}
}
