package ready

import (
	"math"
	"reflect"
	"slices"
	"testing"

	"clockwall/api"
)

// pair of domains: the first one has task 1, the second one tasks 0 and 2.
func pair() api.Config {
	return api.Config{
		Sets: 2, Ways: 2, Domains: 2, Pad: 30, Quantum: 10,
		Slots:    []api.Slot{{Domain: 0, Length: 120}, {Domain: 1, Length: 200}},
		Owners:   []int{0, 1, 1},
		Channels: []api.Channel{{From: 0, To: 1, Size: 2}, {From: 1, To: 0, Size: 3}},
		Tasks: []api.Task{
			{Domain: 1, Period: 80, Budget: 70, Deadline: 40},
			{Domain: 0, Period: 100, Budget: 60, Deadline: 100},
			{Domain: 1, Period: 400, Budget: 100, Deadline: 300},
		},
	}
}

// fresh is New, where it must work.
func fresh(t *testing.T, c api.Config, domain int) api.Domain {
	t.Helper()
	d, e := New(c, domain)
	if e != api.OK {
		t.Fatalf("New(%v, %d): error %d", c, domain, e)
	}
	return d
}

// empty domain, as an error is told with.
func empty(d api.Domain) bool {
	return len(d.Jobs)+len(d.Released)+d.Next+len(d.In)+len(d.Taken)+len(d.Out)+len(d.Events) == 0
}

// D1
func TestNew(t *testing.T) {
	for domain := range 2 {
		d := fresh(t, pair(), domain)
		if len(d.Jobs) != 0 || d.Next != 0 || len(d.Events) != 0 {
			t.Errorf("it has jobs %v, next %d, events %v", d.Jobs, d.Next, d.Events)
		}
		if !slices.Equal(d.Released, []int{0, 0, 0}) || !slices.Equal(d.Taken, []int{0, 0, 0}) {
			t.Errorf("released %v, taken %v", d.Released, d.Taken)
		}
		if len(d.In) != 2 || len(d.Out) != 2 {
			t.Errorf("in %v, out %v", d.In, d.Out)
		}
		for i := range 2 {
			if len(d.In[i].Values) != 0 || d.In[i].Lost != 0 || len(d.Out[i]) != 0 {
				t.Errorf("channel %d: in %v, out %v", i, d.In[i], d.Out[i])
			}
		}
		if e := Check(pair(), domain, d); e != api.OK {
			t.Errorf("Check = %d", e)
		}
	}
}

// D1: as many as there are in the config, also if there are none.
func TestNewOfLittle(t *testing.T) {
	c := pair()
	c.Owners, c.Channels, c.Tasks = nil, nil, nil
	if d := fresh(t, c, 1); !empty(d) || Check(c, 1, d) != api.OK {
		t.Errorf("New = %v, Check = %d", d, Check(c, 1, d))
	}
	c = pair()
	c.Owners, c.Channels = c.Owners[:1], c.Channels[:0]
	if d := fresh(t, c, 1); len(d.Released) != 3 || len(d.Taken) != 1 || len(d.In) != 0 || len(d.Out) != 0 {
		t.Errorf("New = %v", d)
	}
}

// D1, P1
func TestWrongConfigAndDomain(t *testing.T) {
	for _, x := range []struct {
		name   string
		do     func(c *api.Config)
		domain int
		want   api.Errno
	}{
		{"no sets", func(c *api.Config) { c.Sets = 0 }, 0, api.ErrRange},
		{"too little pad", func(c *api.Config) { c.Pad = 0 }, 0, api.ErrState},
		{"no slots", func(c *api.Config) { c.Slots = nil }, 0, api.ErrMany},
		{"channel to itself", func(c *api.Config) { c.Channels[0].To = 0 }, 0, api.ErrForm},
		{"no config", func(c *api.Config) { *c = api.Config{} }, 0, api.ErrRange},
		{"domain below 0", func(c *api.Config) {}, -1, api.ErrNone},
		{"domain that is none", func(c *api.Config) {}, 2, api.ErrNone},
		{"least number", func(c *api.Config) {}, math.MinInt, api.ErrNone},
		{"greatest number", func(c *api.Config) {}, math.MaxInt, api.ErrNone},
		{"config ahead of domain", func(c *api.Config) { c.Pad = 0 }, 2, api.ErrState},
	} {
		c := pair()
		x.do(&c)
		if d, e := New(c, x.domain); e != x.want || !empty(d) {
			t.Errorf("%s: New = %v, %d, not %d", x.name, d, e, x.want)
		}
		refused(t, x.name, c, x.domain, fresh(t, pair(), 0), x.want)
		refused(t, x.name+", ahead of the form", c, x.domain, api.Domain{}, x.want)
	}
}

// refused tells a fault, if a call that takes a domain does not refuse it so, also where the time is wrong.
func refused(t *testing.T, name string, c api.Config, domain int, d api.Domain, want api.Errno) {
	t.Helper()
	if e := Check(c, domain, d); e != want {
		t.Errorf("%s: Check = %d, not %d", name, e, want)
	}
	for _, now := range []int{0, 300, -1, 100001} {
		if after, e := Release(c, domain, d, now); e != want || !empty(after) {
			t.Errorf("%s: Release = %v, %d, not %d", name, after, e, want)
		}
	}
	if n, e := Pick(c, domain, d); n != 0 || e != want {
		t.Errorf("%s: Pick = %d, %d, not %d", name, n, e, want)
	}
	if at, e := Due(c, domain, d); at != 0 || e != want {
		t.Errorf("%s: Due = %d, %d, not %d", name, at, e, want)
	}
}

func job(task, number, released int) api.Job {
	return api.Job{Task: task, Number: number, Released: released}
}

// jobs: as many of task 2.
func jobs(n int) []api.Job { return slices.Repeat([]api.Job{{Task: 2}}, n) }

// changes of the second one of a pair, and what Check says of it then.
var changes = []struct {
	name string
	do   func(d *api.Domain)
	want api.Errno
}{
	{"nothing", func(d *api.Domain) {}, api.OK},

	{"none released", func(d *api.Domain) { d.Released = nil }, api.ErrForm},
	{"fewer released", func(d *api.Domain) { d.Released = make([]int, 2) }, api.ErrForm},
	{"more released", func(d *api.Domain) { d.Released = make([]int, 4) }, api.ErrForm},
	{"fewer in", func(d *api.Domain) { d.In = d.In[:1] }, api.ErrForm},
	{"more in", func(d *api.Domain) { d.In = make([]api.Ring, 3) }, api.ErrForm},
	{"fewer out", func(d *api.Domain) { d.Out = d.Out[:1] }, api.ErrForm},
	{"more out", func(d *api.Domain) { d.Out = make([][]int, 3) }, api.ErrForm},
	{"fewer taken", func(d *api.Domain) { d.Taken = make([]int, 2) }, api.ErrForm},
	{"more taken", func(d *api.Domain) { d.Taken = make([]int, 4) }, api.ErrForm},

	{"released below 0", func(d *api.Domain) { d.Released[2] = -1 }, api.ErrRange},
	{"released above MaxAt", func(d *api.Domain) { d.Released[0] = 100001 }, api.ErrRange},
	{"released of another domain's task", func(d *api.Domain) { d.Released[1] = -1 }, api.ErrRange},
	{"most released", func(d *api.Domain) { d.Released[2] = 100000 }, api.OK},
	{"next below 0", func(d *api.Domain) { d.Next = -1 }, api.ErrRange},
	{"next above MaxAt", func(d *api.Domain) { d.Next = 100001 }, api.ErrRange},
	{"greatest next", func(d *api.Domain) { d.Next = 100000 }, api.OK},
	{"taken below 0", func(d *api.Domain) { d.Taken[2] = -1 }, api.ErrRange},
	{"taken above MaxTaken", func(d *api.Domain) { d.Taken[0] = 16 }, api.ErrRange},
	{"most taken", func(d *api.Domain) { d.Taken[2] = 15 }, api.OK},

	{"most jobs", func(d *api.Domain) { d.Jobs = jobs(20) }, api.OK},
	{"too many jobs", func(d *api.Domain) { d.Jobs = jobs(21) }, api.ErrMany},
	{"job of another domain", func(d *api.Domain) { d.Jobs = []api.Job{job(0, 0, 0), job(1, 0, 0)} }, api.ErrNone},
	{"job of no task", func(d *api.Domain) { d.Jobs = []api.Job{job(3, 0, 0)} }, api.ErrNone},
	{"job of a task below 0", func(d *api.Domain) { d.Jobs = []api.Job{job(-1, 0, 0)} }, api.ErrNone},
	{"job of the greatest number", func(d *api.Domain) { d.Jobs = []api.Job{job(math.MaxInt, 0, 0)} }, api.ErrNone},
	{"number below 0", func(d *api.Domain) { d.Jobs = []api.Job{job(0, -1, 0)} }, api.ErrRange},
	{"number above MaxAt", func(d *api.Domain) { d.Jobs = []api.Job{job(0, 100001, 0)} }, api.ErrRange},
	{"greatest job", func(d *api.Domain) { d.Jobs = []api.Job{job(2, 100000, 100000)} }, api.OK},
	{"released below time", func(d *api.Domain) { d.Jobs = []api.Job{job(0, 0, -1)} }, api.ErrRange},
	{"released behind time", func(d *api.Domain) { d.Jobs = []api.Job{job(0, 0, 100001)} }, api.ErrRange},
	{"used below 0", func(d *api.Domain) { d.Jobs = []api.Job{{Task: 0, Used: -1}} }, api.ErrRange},
	{"budget used", func(d *api.Domain) { d.Jobs = []api.Job{{Task: 0, Used: 70}} }, api.ErrRange},
	{"budget of the other task used", func(d *api.Domain) { d.Jobs = []api.Job{{Task: 2, Used: 70}} }, api.OK},
	{"nearly all used", func(d *api.Domain) { d.Jobs = []api.Job{{Task: 0, Used: 69, Ran: true, Missed: true}} }, api.OK},

	{"ring too full", func(d *api.Domain) { d.In[0].Values = []int{1, 2, 3} }, api.ErrMany},
	{"ring full", func(d *api.Domain) { d.In[1].Values = []int{1, 2, 3} }, api.OK},
	{"ring of the other channel too full", func(d *api.Domain) { d.In[1].Values = make([]int, 4) }, api.ErrMany},
	{"ring with a wrong value", func(d *api.Domain) { d.In[1].Values = []int{256} }, api.ErrRange},
	{"ring that lost too many", func(d *api.Domain) { d.In[1].Lost = 100001 }, api.ErrRange},

	{"most out", func(d *api.Domain) { d.Out[1] = make([]int, 60) }, api.OK},
	{"too many out", func(d *api.Domain) { d.Out[1] = make([]int, 61) }, api.ErrMany},
	{"out below 0", func(d *api.Domain) { d.Out[0] = []int{0, -1} }, api.ErrRange},
	{"out above MaxValue", func(d *api.Domain) { d.Out[1] = []int{255, 256} }, api.ErrRange},
	{"any events", func(d *api.Domain) { d.Events = []api.Event{{At: -1, Kind: 99, A: math.MaxInt, B: math.MinInt}} }, api.OK},

	{"form ahead of numbers", func(d *api.Domain) { d.Taken, d.Next = nil, -1 }, api.ErrForm},
	{"numbers ahead of how many jobs", func(d *api.Domain) { d.Taken[0], d.Jobs = 16, jobs(21) }, api.ErrRange},
	{"how many jobs ahead of a job", func(d *api.Domain) { d.Jobs = make([]api.Job, 21); d.Jobs[0].Task = 3 }, api.ErrMany},
	{"a job's task ahead of its number", func(d *api.Domain) { d.Jobs = []api.Job{job(1, -1, -1)} }, api.ErrNone},
	{"a job's number ahead of the next one's task", func(d *api.Domain) { d.Jobs = []api.Job{job(0, -1, 0), job(3, 0, 0)} }, api.ErrRange},
	{"a job's task ahead of the next one's number", func(d *api.Domain) { d.Jobs = []api.Job{job(3, 0, 0), job(0, -1, 0)} }, api.ErrNone},
	{"a job ahead of a ring", func(d *api.Domain) { d.Jobs, d.In[0].Values = []api.Job{job(3, 0, 0)}, make([]int, 3) }, api.ErrNone},
	{"a ring ahead of the next one", func(d *api.Domain) { d.In[0].Lost, d.In[1].Values = -1, make([]int, 4) }, api.ErrRange},
	{"a ring ahead of out", func(d *api.Domain) { d.In[1].Lost, d.Out[0] = -1, make([]int, 61) }, api.ErrRange},
	{"how many out ahead of a value", func(d *api.Domain) { d.Out[0], d.Out[1] = []int{256}, make([]int, 61) }, api.ErrMany},
}

// D1, P1
func TestCheck(t *testing.T) {
	for _, x := range changes {
		d := fresh(t, pair(), 1)
		x.do(&d)
		if x.want != api.OK {
			refused(t, x.name, pair(), 1, d, x.want)
		} else if e := Check(pair(), 1, d); e != api.OK {
			t.Errorf("%s: Check = %d", x.name, e)
		}
	}
}

// D1: the domain, not the config alone, says whose a task is.
func TestJobsOfTheOtherDomain(t *testing.T) {
	d := fresh(t, pair(), 0)
	d.Jobs = []api.Job{{Task: 1, Used: 59}}
	if e := Check(pair(), 0, d); e != api.OK {
		t.Errorf("its own: %d", e)
	}
	d.Jobs[0].Task = 0
	refused(t, "the other one's", pair(), 0, d, api.ErrNone)
}

// P2: empty lists may be nil or not.
func TestEmptyListsAreAlike(t *testing.T) {
	d := fresh(t, pair(), 1)
	other := d
	other.Jobs, other.Events = []api.Job{}, []api.Event{}
	other.In = []api.Ring{{Values: []int{}}, {}}
	other.Out = [][]int{{}, nil}
	one, _ := Release(pair(), 1, d, 300)
	two, e := Release(pair(), 1, other, 300)
	if e != api.OK || !reflect.DeepEqual(one.Jobs, two.Jobs) || !reflect.DeepEqual(one.Events, two.Events) {
		t.Errorf("%v, but %v, %d", one, two, e)
	}
}
