package ready

import (
	"math"
	"reflect"
	"slices"
	"testing"

	"clockwall/api"
)

// released is Release, where it must work.
func released(t *testing.T, c api.Config, domain int, d api.Domain, now int) api.Domain {
	t.Helper()
	after, e := Release(c, domain, d, now)
	if e != api.OK {
		t.Fatalf("Release(%v, %d): error %d", d, now, e)
	}
	if e := Check(c, domain, after); e != api.OK {
		t.Fatalf("Release(%v, %d) = %v, which Check refuses: %d", d, now, after, e)
	}
	return after
}

func came(at, task, number int) api.Event {
	return api.Event{At: at, Kind: api.EventRelease, A: task, B: number}
}

func missed(at, task, number int) api.Event {
	return api.Event{At: at, Kind: api.EventMiss, A: task, B: number}
}

// late is a job that missed its deadline.
func late(task, number, released int) api.Job {
	return api.Job{Task: task, Number: number, Released: released, Missed: true}
}

// single domain with one task.
func single(period, deadline int) api.Config {
	c := pair()
	c.Tasks = []api.Task{{Domain: 0, Period: period, Budget: 1, Deadline: deadline}}
	return c
}

// The document's fourth example.
func TestExample(t *testing.T) {
	c := single(50, 30)
	d := released(t, c, 0, fresh(t, c, 0), 40)
	if !slices.Equal(d.Jobs, []api.Job{late(0, 0, 0)}) {
		t.Errorf("jobs %v", d.Jobs)
	}
	if at, e := Due(c, 0, d); at != 50 || e != api.OK {
		t.Errorf("Due = %d, %d", at, e)
	}
}

// D2
func TestRelease(t *testing.T) {
	for _, x := range []struct {
		name   string
		domain int
		now    int
		jobs   []api.Job
		counts []int
		events []api.Event
	}{
		{"at the beginning", 1, 0,
			[]api.Job{job(0, 0, 0), job(2, 0, 0)}, []int{1, 0, 1},
			[]api.Event{came(0, 0, 0), came(0, 2, 0)}},
		{"ahead of the deadline", 1, 39,
			[]api.Job{job(0, 0, 0), job(2, 0, 0)}, []int{1, 0, 1},
			[]api.Event{came(0, 0, 0), came(0, 2, 0)}},
		{"at the deadline", 1, 40,
			[]api.Job{late(0, 0, 0), job(2, 0, 0)}, []int{1, 0, 1},
			[]api.Event{came(0, 0, 0), came(0, 2, 0), missed(40, 0, 0)}},
		{"ahead of the next one", 1, 79,
			[]api.Job{late(0, 0, 0), job(2, 0, 0)}, []int{1, 0, 1},
			[]api.Event{came(0, 0, 0), came(0, 2, 0), missed(40, 0, 0)}},
		{"task by task", 1, 80,
			[]api.Job{late(0, 0, 0), job(0, 1, 80), job(2, 0, 0)}, []int{2, 0, 1},
			[]api.Event{came(0, 0, 0), came(80, 0, 1), came(0, 2, 0), missed(40, 0, 0)}},
		{"misses in order of the jobs", 1, 300,
			[]api.Job{late(0, 0, 0), late(0, 1, 80), late(0, 2, 160), late(0, 3, 240), late(2, 0, 0)}, []int{4, 0, 1},
			[]api.Event{came(0, 0, 0), came(80, 0, 1), came(160, 0, 2), came(240, 0, 3), came(0, 2, 0),
				missed(40, 0, 0), missed(120, 0, 1), missed(200, 0, 2), missed(280, 0, 3), missed(300, 2, 0)}},
		{"the other domain", 0, 100,
			[]api.Job{late(1, 0, 0), job(1, 1, 100)}, []int{0, 2, 0},
			[]api.Event{came(0, 1, 0), came(100, 1, 1), missed(100, 1, 0)}},
	} {
		d := released(t, pair(), x.domain, fresh(t, pair(), x.domain), x.now)
		if !slices.Equal(d.Jobs, x.jobs) {
			t.Errorf("%s: jobs %v, not %v", x.name, d.Jobs, x.jobs)
		}
		if !slices.Equal(d.Released, x.counts) {
			t.Errorf("%s: released %v, not %v", x.name, d.Released, x.counts)
		}
		if !slices.Equal(d.Events, x.events) {
			t.Errorf("%s: events %v, not %v", x.name, d.Events, x.events)
		}
	}
}

// used has something in each of its fields.
func used() api.Domain {
	return api.Domain{
		Jobs:     []api.Job{{Task: 2, Number: 7, Released: 90, Used: 3, Ran: true}, {Task: 0, Number: 1, Released: 10, Missed: true}},
		Released: []int{1, 5, 2},
		Next:     4,
		In:       []api.Ring{{Values: []int{1, 2}, Lost: 3}, {Values: []int{4}}},
		Taken:    []int{1, 2, 3},
		Out:      [][]int{{5}, {6, 7}},
		Events:   []api.Event{{At: 9, Kind: api.EventOpen, A: 1}},
	}
}

// D2: what was there stays, and what comes, comes behind it.
func TestReleaseKeepsTheRest(t *testing.T) {
	want := used()
	want.Jobs = append(want.Jobs, job(0, 1, 80))
	want.Released[0] = 2
	want.Events = append(want.Events, came(80, 0, 1))
	if got := released(t, pair(), 1, used(), 80); !reflect.DeepEqual(got, want) {
		t.Errorf("%v, not %v", got, want)
	}
	want.Jobs[0].Missed, want.Jobs[2].Missed = true, true
	want.Jobs = append(want.Jobs, late(0, 2, 160), late(0, 3, 240), late(0, 4, 320))
	want.Released[0] = 5
	want.Events = append(want.Events[:1], came(80, 0, 1), came(160, 0, 2), came(240, 0, 3), came(320, 0, 4),
		missed(390, 2, 7), missed(120, 0, 1), missed(200, 0, 2), missed(280, 0, 3), missed(360, 0, 4))
	if got := released(t, pair(), 1, used(), 390); !reflect.DeepEqual(got, want) {
		t.Errorf("%v, not %v", got, want)
	}
}

// D2
func TestReleaseOfNothing(t *testing.T) {
	if got := released(t, pair(), 1, used(), 0); !reflect.DeepEqual(got, used()) {
		t.Errorf("at a time that is over: %v", got)
	}
	c := pair()
	c.Tasks = c.Tasks[1:2]
	d := fresh(t, c, 1)
	if got := released(t, c, 1, d, 100000); len(got.Jobs) != 0 || len(got.Events) != 0 || !slices.Equal(got.Released, []int{0}) {
		t.Errorf("without tasks: %v", got)
	}
}

// D2: with 20 jobs none comes, and nothing is told of it; but it counts.
func TestReleaseWithoutRoom(t *testing.T) {
	d := fresh(t, pair(), 1)
	d.Jobs = jobs(19)
	got := released(t, pair(), 1, d, 160)
	if len(got.Jobs) != 20 || got.Jobs[19] != late(0, 0, 0) {
		t.Errorf("with room for one: jobs %v", got.Jobs)
	}
	if !slices.Equal(got.Released, []int{3, 0, 1}) || !slices.Equal(got.Events, []api.Event{came(0, 0, 0), missed(40, 0, 0)}) {
		t.Errorf("with room for one: released %v, events %v", got.Released, got.Events)
	}
	d.Jobs = jobs(20)
	got = released(t, pair(), 1, d, 160)
	if !slices.Equal(got.Jobs, jobs(20)) || !slices.Equal(got.Released, []int{3, 0, 1}) || len(got.Events) != 0 {
		t.Errorf("without room: %v", got)
	}
	got.Jobs = got.Jobs[:19]
	got = released(t, pair(), 1, got, 240)
	if len(got.Jobs) != 20 || got.Jobs[19] != job(0, 3, 240) {
		t.Errorf("with room again: %v", got.Jobs)
	}
}

// D2: no task has more than MaxAt jobs.
func TestMostReleased(t *testing.T) {
	c := single(1, 1)
	d := fresh(t, c, 0)
	for _, x := range []struct{ now, counts int }{{99998, 99999}, {99999, 100000}, {100000, 100000}} {
		if got := released(t, c, 0, d, x.now); got.Released[0] != x.counts || len(got.Jobs) != 20 {
			t.Errorf("at %d: released %v, %d jobs", x.now, got.Released, len(got.Jobs))
		}
	}
	d.Released[0] = 99999
	got := released(t, c, 0, d, 100000)
	if !slices.Equal(got.Jobs, []api.Job{late(0, 99999, 99999)}) || got.Released[0] != 100000 {
		t.Errorf("the last one: %v", got)
	}
	d.Released[0] = 100000
	if got := released(t, c, 0, d, 100000); len(got.Jobs) != 0 || got.Released[0] != 100000 {
		t.Errorf("behind the last one: %v", got)
	}
}

// D2, P1
func TestReleaseRefuses(t *testing.T) {
	for _, now := range []int{math.MinInt, -1, 100001, math.MaxInt} {
		if d, e := Release(pair(), 1, used(), now); e != api.ErrRange || !empty(d) {
			t.Errorf("at %d: %v, %d", now, d, e)
		}
	}
	released(t, pair(), 1, used(), 100000)
}

// D3
func TestPick(t *testing.T) {
	for _, x := range []struct {
		name string
		jobs []api.Job
		want int
	}{
		{"none", nil, -1},
		{"none, but not nil", []api.Job{}, -1},
		{"one", []api.Job{job(2, 3, 9)}, 0},
		{"deadline, not release", []api.Job{job(2, 0, 0), job(0, 0, 259)}, 1},
		{"later deadline", []api.Job{job(2, 0, 0), job(0, 0, 261)}, 0},
		{"deadline ahead of task and number", []api.Job{job(0, 0, 261), job(2, 9, 0)}, 1},
		{"task", []api.Job{job(2, 0, 0), job(0, 9, 260)}, 1},
		{"task, first", []api.Job{job(0, 9, 260), job(2, 0, 0)}, 0},
		{"number", []api.Job{job(2, 4, 0), job(2, 3, 0)}, 1},
		{"number, first", []api.Job{job(2, 3, 0), job(2, 4, 0)}, 0},
		{"release ahead of number", []api.Job{job(2, 3, 1), job(2, 4, 0)}, 1},
		{"all three", []api.Job{job(2, 4, 0), job(0, 9, 260), job(2, 3, 0), job(0, 8, 260), job(0, 7, 261)}, 3},
		{"what it used does not count", []api.Job{{Task: 0, Number: 1, Released: 5, Used: 60, Ran: true, Missed: true}, job(0, 0, 4)}, 1},
		{"the same twice", []api.Job{job(2, 1, 1), job(2, 0, 0), job(2, 0, 0)}, 1},
		{"the last one of many", append(jobs(19), job(0, 0, 0)), 19},
	} {
		d := fresh(t, pair(), 1)
		d.Jobs = x.jobs
		if got, e := Pick(pair(), 1, d); got != x.want || e != api.OK {
			t.Errorf("%s: %d, %d, not %d", x.name, got, e, x.want)
		}
	}
}

// D3
func TestDue(t *testing.T) {
	for _, x := range []struct {
		name   string
		domain int
		counts []int
		want   int
	}{
		{"at the beginning", 1, []int{0, 0, 0}, 0},
		{"one is left", 1, []int{1, 0, 0}, 0},
		{"the first task", 1, []int{4, 0, 1}, 320},
		{"the last task", 1, []int{6, 0, 1}, 400},
		{"both at one time", 1, []int{5, 0, 1}, 400},
		{"not the other domain's", 0, []int{0, 7, 0}, 700},
		{"far behind time", 1, []int{100000, 0, 100000}, 8000000},
		{"what is there still", 1, []int{100000, 0, 3}, 1200},
	} {
		d := fresh(t, pair(), x.domain)
		d.Released = x.counts
		if got, e := Due(pair(), x.domain, d); got != x.want || e != api.OK {
			t.Errorf("%s: %d, %d, not %d", x.name, got, e, x.want)
		}
	}
}

// D3
func TestDueWithoutTasks(t *testing.T) {
	c := pair()
	c.Tasks = c.Tasks[1:2]
	if got, e := Due(c, 1, fresh(t, c, 1)); got != -1 || e != api.OK {
		t.Errorf("no task of its own: %d, %d", got, e)
	}
	c.Tasks = nil
	if got, e := Due(c, 1, fresh(t, c, 1)); got != -1 || e != api.OK {
		t.Errorf("no tasks at all: %d, %d", got, e)
	}
}

// D4
func TestReleasedTwice(t *testing.T) {
	for domain := range 2 {
		d := fresh(t, pair(), domain)
		for now := 0; now < 6000; now += 37 {
			once := released(t, pair(), domain, d, now)
			twice := released(t, pair(), domain, once, now)
			if !reflect.DeepEqual(once, twice) {
				t.Fatalf("domain %d at %d: %v, then %v", domain, now, once, twice)
			}
			if at, _ := Due(pair(), domain, once); at <= now {
				t.Errorf("domain %d at %d: the next one comes at %d", domain, now, at)
			}
			d = once
			if len(d.Jobs) > 12 {
				d.Jobs = d.Jobs[5:]
			}
		}
	}
}

// D4: a job is picked until none is left; each has a deadline not ahead of the last one's.
func TestPickedInOrder(t *testing.T) {
	d := released(t, pair(), 1, fresh(t, pair(), 1), 1000)
	deadlines := map[int]int{0: 40, 2: 300}
	last := -1
	for n := len(d.Jobs); n > 0; n-- {
		at, e := Pick(pair(), 1, d)
		if e != api.OK || at < 0 || at >= n {
			t.Fatalf("of %d jobs: %d, %d", n, at, e)
		}
		deadline := d.Jobs[at].Released + deadlines[d.Jobs[at].Task]
		if deadline < last {
			t.Errorf("picked for %d behind %d", deadline, last)
		}
		last = deadline
		d.Jobs = slices.Delete(d.Jobs, at, at+1)
	}
}

// P2: new memory throughout, the spare room of what was handed in too.
func TestReleaseIsNewMemory(t *testing.T) {
	for _, now := range []int{0, 80, 390} {
		d := roomy()
		got := released(t, pair(), 1, d, now)
		want := deep(got)
		if !reflect.DeepEqual(whole(d), whole(roomy())) {
			t.Errorf("at %d: what was handed in is %v now", now, whole(d))
		}
		spoil(d)
		if !reflect.DeepEqual(got, want) {
			t.Errorf("at %d: a later change makes it %v", now, got)
		}
		d = roomy()
		spoil(released(t, pair(), 1, d, now))
		if !reflect.DeepEqual(whole(d), whole(roomy())) {
			t.Errorf("at %d: a change of the answer makes what was handed in %v", now, whole(d))
		}
	}
}

// P2
func TestOthersOnlyRead(t *testing.T) {
	d, c := roomy(), pair()
	Check(c, 1, d)
	Pick(c, 1, d)
	Due(c, 1, d)
	Release(c, 1, d, 390)
	if !reflect.DeepEqual(whole(d), whole(roomy())) || !reflect.DeepEqual(c, pair()) {
		t.Errorf("it is now %v, %v", whole(d), c)
	}
}

// P2: no two lists of an answer share memory, nor those of two answers.
func TestListsAreApart(t *testing.T) {
	one, two := fresh(t, pair(), 1), fresh(t, pair(), 1)
	for _, d := range []api.Domain{one, released(t, pair(), 1, used(), 390)} {
		lists := [][]int{d.Released, d.Taken, d.In[0].Values, d.In[1].Values, d.Out[0], d.Out[1]}
		for i, l := range lists {
			fill(l, 1000+i)
		}
		for i, l := range lists {
			if slices.ContainsFunc(l, func(n int) bool { return n != 1000+i }) {
				t.Errorf("list %d is %v", i, l)
			}
		}
	}
	if !reflect.DeepEqual(two, fresh(t, pair(), 1)) {
		t.Errorf("another new one is %v", two)
	}
}

// fill changes all memory of a list, the spare room too.
func fill[T any](l []T, with T) {
	l = l[:cap(l)]
	for i := range l {
		l[i] = with
	}
}

// spoil changes all memory of a domain.
func spoil(d api.Domain) {
	for _, r := range d.In {
		fill(r.Values, 99)
	}
	for _, l := range d.Out {
		fill(l, 99)
	}
	fill(d.Jobs, api.Job{Task: 99})
	fill(d.Released, 99)
	fill(d.In, api.Ring{Lost: 99})
	fill(d.Taken, 99)
	fill(d.Out, []int{99})
	fill(d.Events, api.Event{Kind: 99})
}

// roomy is used, with more behind each list, in the same memory.
func roomy() api.Domain {
	d := used()
	d.Jobs = append(d.Jobs, job(70, 0, 0), job(71, 0, 0), job(72, 0, 0))[:2]
	d.Released = append(d.Released, 70, 71)[:3]
	d.In[0].Values = append(d.In[0].Values, 72)[:2]
	d.In = append(d.In, api.Ring{Lost: 73})[:2]
	d.Taken = append(d.Taken, 74)[:3]
	d.Out[1] = append(d.Out[1], 75)[:2]
	d.Out = append(d.Out, []int{76})[:2]
	d.Events = append(d.Events, came(77, 0, 0), came(78, 0, 0), came(79, 0, 0))[:1]
	return d
}

// whole copies all memory of a domain, the spare room too.
func whole(d api.Domain) api.Domain {
	return copied(d, func(l []int) []int { return l[:cap(l)] }, api.Domain{
		Jobs:   d.Jobs[:cap(d.Jobs)],
		In:     d.In[:cap(d.In)],
		Out:    d.Out[:cap(d.Out)],
		Events: d.Events[:cap(d.Events)],
	})
}

// deep copies a domain, without the spare room.
func deep(d api.Domain) api.Domain {
	return copied(d, func(l []int) []int { return l }, d)
}

// copied is a domain whose lists of numbers are seen by view, its others as in lists.
func copied(d api.Domain, view func([]int) []int, lists api.Domain) api.Domain {
	after := api.Domain{
		Jobs:     slices.Clone(lists.Jobs),
		Released: slices.Clone(view(d.Released)),
		Next:     d.Next,
		In:       slices.Clone(lists.In),
		Taken:    slices.Clone(view(d.Taken)),
		Out:      slices.Clone(lists.Out),
		Events:   slices.Clone(lists.Events),
	}
	for i, r := range after.In {
		after.In[i].Values = slices.Clone(view(r.Values))
	}
	for i, l := range after.Out {
		after.Out[i] = slices.Clone(view(l))
	}
	return after
}
